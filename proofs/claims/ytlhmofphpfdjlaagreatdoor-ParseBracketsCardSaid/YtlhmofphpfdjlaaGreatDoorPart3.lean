/- Part. -/
import Derived.Test.YtlhmofphpfdjlaaGreatDoorPart2
set_option maxRecDepth 100000
set_option maxHeartbeats 4000000
/- Types as they are kept: what the document says, and that what is kept is kept so again; without a program in sight. -/
namespace Go.Proofs.YtlhmofphpfdjlaaGreatDoor
open Go.Proofs.Tryz
/-- Two lists that rise, with the same members, are the same. -/
theorem rising_ext {α : Type} {R : α -> α -> Prop} (irr : ∀ a, ¬ R a a) (asym : ∀ a b, R a b -> R b a -> False) : ∀ (l m : List α), l.Pairwise R -> m.Pairwise R -> (∀ x, x ∈ l ↔ x ∈ m) -> l = m
  | [], [], _, _, _ => rfl
  | [], b :: m, _, _, h => absurd ((h b).2 (List.mem_cons_self ..)) (by simp)
  | a :: l, [], _, _, h => absurd ((h a).1 (List.mem_cons_self ..)) (by simp)
  | a :: l, b :: m, hl, hm, h => by
    rw [List.pairwise_cons] at hl hm
    have e : a = b := by
      rcases List.mem_cons.1 ((h a).1 (List.mem_cons_self ..)) with e | ha
      · exact e
      rcases List.mem_cons.1 ((h b).2 (List.mem_cons_self ..)) with e | hb
      · exact e.symm
      exact (asym _ _ (hl.1 b hb) (hm.1 a ha)).elim
    subst e
    rw [rising_ext irr asym l m hl.2 hm.2 fun x => ?_]
    constructor
    · intro hx
      rcases List.mem_cons.1 ((h x).1 (List.mem_cons_of_mem _ hx)) with e | hx2
      · subst e
        exact (irr _ (hl.1 _ hx)).elim
      · exact hx2
    · intro hx
      rcases List.mem_cons.1 ((h x).2 (List.mem_cons_of_mem _ hx)) with e | hx2
      · subst e
        exact (irr _ (hm.1 _ hx)).elim
      · exact hx2
theorem ltB_irr : ∀ s, ltB s s = false
  | [] => rfl
  | a :: r => by rw [ltB, if_neg (by omega), if_neg (by omega)]; exact ltB_irr r
theorem ltB_trans : ∀ a b c, ltB a b = true -> ltB b c = true -> ltB a c = true
  | _, [], _, h, _ => by rw [ltB] at h; cases h
  | _, _ :: _, [], _, h => by rw [ltB] at h; cases h
  | [], _ :: _, _ :: _, _, _ => rfl
  | a :: r, b :: s, c :: t, h1, h2 => by
    rw [ltB] at h1 h2 ⊢
    by_cases ab : a.toNat < b.toNat
    · by_cases bc : b.toNat < c.toNat
      · rw [if_pos (by omega)]
      · rw [if_neg bc] at h2
        by_cases cb : c.toNat < b.toNat
        · rw [if_pos cb] at h2; cases h2
        · rw [if_pos (by omega)]
    · rw [if_neg ab] at h1
      by_cases ba : b.toNat < a.toNat
      · rw [if_pos ba] at h1; cases h1
      rw [if_neg ba] at h1
      by_cases bc : b.toNat < c.toNat
      · rw [if_pos (by omega)]
      · rw [if_neg bc] at h2
        by_cases cb : c.toNat < b.toNat
        · rw [if_pos cb] at h2; cases h2
        rw [if_neg cb] at h2
        rw [if_neg (by omega), if_neg (by omega)]
        exact ltB_trans r s t h1 h2
theorem ltB_asym {a b : List UInt8} (h : ltB a b = true) (k : ltB b a = true) : False := by
  have := ltB_trans a b a h k
  rw [ltB_irr] at this
  cases this
theorem ltB_total : ∀ a b, ltB a b = false -> ltB b a = false -> a = b
  | [], [], _, _ => rfl
  | [], _ :: _, h, _ => by rw [ltB] at h; cases h
  | _ :: _, [], _, h => by rw [ltB] at h; cases h
  | a :: r, b :: s, h1, h2 => by
    rw [ltB] at h1 h2
    by_cases ab : a.toNat < b.toNat
    · rw [if_pos ab] at h1; cases h1
    by_cases ba : b.toNat < a.toNat
    · rw [if_pos ba] at h2; cases h2
    rw [if_neg ab, if_neg ba] at h1
    rw [if_neg ba, if_neg ab] at h2
    rw [ltB_total r s h1 h2, UInt8.toNat_inj.1 (show a.toNat = b.toNat by omega)]
/-- A field laid among others, by its name; none where the name is there. -/
def insP (s : List UInt8) (x : Ty) : List (List UInt8 × Ty) -> Option (List (List UInt8 × Ty))
  | [] => some [(s, x)]
  | (t, y) :: r => if ltB t s then (insP s x r).map ((t, y) :: ·) else if t = s then none else some ((s, x) :: (t, y) :: r)
def recGo : List (List UInt8) -> List Ty -> List (List UInt8 × Ty) -> Option (List (List UInt8 × Ty))
  | s :: ns, x :: ks, acc => if nameV s then (insP s x acc).bind (recGo ns ks) else none
  | _, _, acc => some acc
def recT (l : List (List UInt8 × Ty)) : Ty := mkT 5 [] (l.map (·.1)) (l.map (·.2))
def recordV (ns : List (List UInt8)) (ks : List Ty) : Option Ty := if ns.length ≠ ks.length ∨ 16 < ns.length then none else (recGo ns ks []).map recT
/-- The fields rise. -/
def RiseP (l : List (List UInt8 × Ty)) : Prop := l.Pairwise fun a b => ltB a.1 b.1 = true
theorem insP_some {s : List UInt8} {x : Ty} : ∀ {acc l : List (List UInt8 × Ty)}, RiseP acc -> insP s x acc = some l -> RiseP l /\ (∀ p, p ∈ l ↔ p = (s, x) ∨ p ∈ acc) /\ l.length = acc.length + 1
  | [], l, _, h => by
    rw [insP] at h
    injection h with h
    subst h
    exact ⟨List.pairwise_singleton .., by simp, rfl⟩
  | (t, y) :: r, l, ha, h => by
    unfold RiseP at ha
    rw [List.pairwise_cons] at ha
    rw [insP] at h
    by_cases hlt : ltB t s = true
    · rw [if_pos hlt, Option.map_eq_some_iff] at h
      obtain ⟨m, hm, rfl⟩ := h
      obtain ⟨h1, h2, h3⟩ := insP_some ha.2 hm
      refine ⟨?_, ?_, by simp [h3]⟩
      · unfold RiseP
        rw [List.pairwise_cons]
        refine ⟨fun p hp => ?_, h1⟩
        rcases (h2 p).1 hp with rfl | hp
        · exact hlt
        · exact ha.1 p hp
      · intro p
        rw [List.mem_cons, h2, List.mem_cons]
        constructor
        · rintro (h | h | h)
          · exact .inr (.inl h)
          · exact .inl h
          · exact .inr (.inr h)
        · rintro (h | h | h)
          · exact .inr (.inl h)
          · exact .inl h
          · exact .inr (.inr h)
    · rw [if_neg hlt] at h
      by_cases he : t = s
      · rw [if_pos he] at h; cases h
      · rw [if_neg he] at h
        injection h with h
        subst h
        have hst : ltB s t = true := by
          cases hq : ltB s t
          · exact absurd (ltB_total t s (by simpa using hlt) hq) he
          · rfl
        refine ⟨?_, by simp, rfl⟩
        unfold RiseP
        rw [List.pairwise_cons, List.pairwise_cons]
        refine ⟨fun p hp => ?_, ha⟩
        rcases List.mem_cons.1 hp with rfl | hp
        · exact hst
        · exact ltB_trans _ _ _ hst (ha.1 p hp)
theorem insP_none {s : List UInt8} {x : Ty} : ∀ {acc : List (List UInt8 × Ty)}, insP s x acc = none -> ∃ y, (s, y) ∈ acc
  | [], h => by rw [insP] at h; cases h
  | (t, y) :: r, h => by
    rw [insP] at h
    by_cases hlt : ltB t s = true
    · rw [if_pos hlt, Option.map_eq_none_iff] at h
      obtain ⟨z, hz⟩ := insP_none h
      exact ⟨z, List.mem_cons_of_mem _ hz⟩
    · rw [if_neg hlt] at h
      by_cases he : t = s
      · subst he
        exact ⟨y, List.mem_cons_self ..⟩
      · rw [if_neg he] at h; cases h
/-- Behind all that is there. -/
theorem insP_last {s : List UInt8} {x : Ty} : ∀ {acc : List (List UInt8 × Ty)}, (∀ p ∈ acc, ltB p.1 s = true) -> insP s x acc = some (acc ++ [(s, x)])
  | [], _ => rfl
  | (t, y) :: r, h => by
    rw [insP, if_pos (h (t, y) (List.mem_cons_self ..)), insP_last fun p hp => h p (List.mem_cons_of_mem _ hp)]
    rfl
theorem recGo_some : ∀ {ns : List (List UInt8)} {ks : List Ty} {acc l : List (List UInt8 × Ty)}, ns.length = ks.length -> RiseP acc -> recGo ns ks acc = some l ->
    RiseP l /\ (∀ p, p ∈ l ↔ p ∈ acc ∨ p ∈ ns.zip ks) /\ (∀ s ∈ ns, nameV s = true) /\ l.length = acc.length + ns.length
  | [], [], acc, l, _, ha, h => by
    rw [recGo] at h
    · injection h with h
      subst h
      exact ⟨ha, by simp, by simp, by simp⟩
    · simp
  | [], _ :: _, _, _, hl, _, _ => by simp at hl
  | _ :: _, [], _, _, hl, _, _ => by simp at hl
  | s :: ns, x :: ks, acc, l, hl, ha, h => by
    rw [recGo] at h
    by_cases hn : nameV s = true
    · rw [if_pos hn, Option.bind_eq_some_iff] at h
      obtain ⟨m, hm, h⟩ := h
      obtain ⟨h1, h2, h3⟩ := insP_some ha hm
      obtain ⟨g1, g2, g3, g4⟩ := recGo_some (by simpa using hl) h1 h
      refine ⟨g1, ?_, ?_, by simp [g4, h3]; omega⟩
      · intro p
        rw [g2, h2, List.zip_cons_cons, List.mem_cons]
        constructor
        · rintro ((h | h) | h)
          · exact .inr (.inl h)
          · exact .inl h
          · exact .inr (.inr h)
        · rintro (h | h | h)
          · exact .inl (.inr h)
          · exact .inl (.inl h)
          · exact .inr h
      · intro t ht
        rcases List.mem_cons.1 ht with rfl | ht
        · exact hn
        · exact g3 t ht
    · rw [if_neg hn] at h; cases h
/-- Fields that rise stay as they are. -/
theorem recGo_self : ∀ {ns : List (List UInt8)} {ks : List Ty} {acc : List (List UInt8 × Ty)}, ns.length = ks.length -> (∀ s ∈ ns, nameV s = true) -> ns.Pairwise (fun a b => ltB a b = true) -> (∀ p ∈ acc, ∀ s ∈ ns, ltB p.1 s = true) ->
    recGo ns ks acc = some (acc ++ ns.zip ks)
  | [], [], acc, _, _, _, _ => by
    rw [recGo]
    · simp
    · simp
  | [], _ :: _, _, hl, _, _, _ => by simp at hl
  | _ :: _, [], _, hl, _, _, _ => by simp at hl
  | s :: ns, x :: ks, acc, hl, hn, hr, ha => by
    rw [List.pairwise_cons] at hr
    rw [recGo, if_pos (hn s (List.mem_cons_self ..)), insP_last fun p hp => ha p hp s (List.mem_cons_self ..)]
    show recGo ns ks (acc ++ [(s, x)]) = _
    rw [recGo_self (by simpa using hl) (fun t ht => hn t (List.mem_cons_of_mem _ ht)) hr.2]
    · simp
    · intro p hp t ht
      rcases List.mem_append.1 hp with hp | hp
      · exact ha p hp t (List.mem_cons_of_mem _ ht)
      · rw [List.mem_singleton.1 hp]
        exact hr.1 t ht
/-- Are they the same in all? -/
def sameT : Nat -> Ty -> Ty -> Bool
  | 0, _, _ => false
  | n + 1, a, b => kindT a == kindT b && nameT a == nameT b && namesT a == namesT b && (kidsT a).length == (kidsT b).length && (List.zipWith (sameT n) (kidsT a) (kidsT b)).all id
/-- A tree of types, at most n deep. -/
def IsT : Nat -> Ty -> Prop
  | 0, _ => False
  | n + 1, D => D = mkT (kindT D) (nameT D) (namesT D) (kidsT D) /\ ∀ x ∈ kidsT D, IsT n x
theorem is_mono {n m : Nat} {D : Ty} (h : IsT n D) (hm : n <= m) : IsT m D := by
  induction n generalizing m D with
  | zero => exact h.elim
  | succ n ih =>
    obtain ⟨m, rfl⟩ : ∃ p, m = p + 1 := ⟨m - 1, by omega⟩
    exact ⟨h.1, fun x hx => ih (h.2 x hx) (by omega)⟩
theorem is_mk {n : Nat} {k : Int} {nm : List UInt8} {ns : List (List UInt8)} {ks : List Ty} (h : ∀ x ∈ ks, IsT n x) : IsT (n + 1) (mkT k nm ns ks) :=
  ⟨by rw [names_mk]; rfl, h⟩
theorem is_norm {n : Nat} {D : Ty} (h : NormT n D) : IsT n D := by
  induction n generalizing D with
  | zero => exact h.elim
  | succ n ih =>
    rcases h with ⟨k, _, _, rfl⟩ | ⟨ns, ks, rfl, _, _, _, _, h6⟩ | ⟨a, b, rfl, h2, h3⟩ | ⟨ks, rfl, _, h3, _⟩
    · exact is_mk (by simp)
    · exact is_mk fun x hx => ih (h6 x hx)
    · refine is_mk fun x hx => ?_
      rcases List.mem_cons.1 hx with rfl | hx
      · exact ih h2
      · rw [List.mem_singleton.1 hx]
        exact ih h3
    · exact is_mk fun x hx => ih (h3 x hx).1
theorem zip_all {f : Ty -> Ty -> Bool} : ∀ {us bs : List Ty}, us.length = bs.length -> (∀ a ∈ us, ∀ b ∈ bs, f a b = true -> a = b) -> (List.zipWith f us bs).all id = true -> us = bs
  | [], [], _, _, _ => rfl
  | [], _ :: _, hl, _, _ => by simp at hl
  | _ :: _, [], hl, _, _ => by simp at hl
  | a :: us, b :: bs, hl, h, hz => by
    rw [List.zipWith_cons_cons, List.all_cons, Bool.and_eq_true] at hz
    rw [h a (List.mem_cons_self ..) b (List.mem_cons_self ..) hz.1, zip_all (by simpa using hl) (fun a ha b hb => h a (List.mem_cons_of_mem _ ha) b (List.mem_cons_of_mem _ hb)) hz.2]
theorem zip_self {f : Ty -> Ty -> Bool} : ∀ {us : List Ty}, (∀ a ∈ us, f a a = true) -> (List.zipWith f us us).all id = true
  | [], _ => rfl
  | a :: us, h => by
    rw [List.zipWith_cons_cons, List.all_cons, Bool.and_eq_true]
    exact ⟨h a (List.mem_cons_self ..), zip_self fun x hx => h x (List.mem_cons_of_mem _ hx)⟩
theorem same_self {n : Nat} {a : Ty} (h : IsT n a) : sameT n a a = true := by
  induction n generalizing a with
  | zero => exact h.elim
  | succ n ih =>
    rw [sameT]
    simp only [beq_self_eq_true, Bool.true_and]
    exact zip_self fun x hx => ih (h.2 x hx)
theorem same_eq {n : Nat} {a b : Ty} (ha : IsT n a) (hb : IsT n b) (h : sameT n a b = true) : a = b := by
  induction n generalizing a b with
  | zero => exact ha.elim
  | succ n ih =>
    rw [sameT] at h
    simp only [Bool.and_eq_true, beq_iff_eq] at h
    obtain ⟨⟨⟨⟨h1, h2⟩, h3⟩, h4⟩, h5⟩ := h
    have h6 := zip_all h4 (fun x hx y hy he => ih (ha.2 x hx) (hb.2 y hy) he) h5
    rw [ha.1, hb.1, h1, h2, h3, h6]
end Go.Proofs.YtlhmofphpfdjlaaGreatDoor
/- Types as they are kept: what is kept is normal, and a normal type is kept as it is; without a program in sight. -/
namespace Go.Proofs.YtlhmofphpfdjlaaGreatDoor
open Go.Proofs.Tryz
def tagsL : List Int := [1, 2, 3, 4, 5, 6]
/-- The first one of a kind. -/
def firstK (all : List Ty) (k : Int) : Option Ty := all.find? fun x => kindT x == k
def madeV (l : List Ty) : Option Ty :=
  match l with
  | [] => none
  | [x] => some x
  | x :: y :: r => some (mkT 7 [] [] (x :: y :: r))
def alikeV (n : Nat) (all : List Ty) : Bool := all.all fun x => match firstK all (kindT x) with | some y => sameT n y x | none => false
def unionV (n : Nat) (ks : List Ty) : Option Ty :=
  if (ks.flatMap membersT).any (fun x => kindT x == 0) then none
  else if alikeV n (ks.flatMap membersT) then madeV (tagsL.filterMap (firstK (ks.flatMap membersT))) else none
def funV (ks : List Ty) : Option Ty := if ks.length = 2 then some (mkT 6 [] [] ks) else none
def normT : Nat -> Ty -> Option Ty
  | 0, _ => none
  | n + 1, D =>
    if 0 <= kindT D /\ kindT D <= 4 then some (mkT (kindT D) [] [] [])
    else if kindT D = 5 ∨ kindT D = 6 ∨ kindT D = 7 then
      match (kidsT D).mapM (normT n) with
      | none => none
      | some ks => if kindT D = 5 then recordV (namesT D) ks else if kindT D = 6 then funV ks else unionV n ks
    else none
theorem mapM_mem {f : Ty -> Option Ty} : ∀ {l m : List Ty}, l.mapM f = some m -> (∀ y ∈ m, ∃ x ∈ l, f x = some y) /\ m.length = l.length
  | [], m, h => by
    simp at h
    subst h
    simp
  | x :: l, m, h => by
    rw [List.mapM_cons] at h
    simp only [Option.bind_eq_bind, Option.bind_eq_some_iff, Option.pure_def, Option.some.injEq] at h
    obtain ⟨y, hy, r, hr, rfl⟩ := h
    obtain ⟨h1, h2⟩ := mapM_mem hr
    refine ⟨fun z hz => ?_, by simp [h2]⟩
    rcases List.mem_cons.1 hz with rfl | hz
    · exact ⟨x, List.mem_cons_self .., hy⟩
    · obtain ⟨w, hw, he⟩ := h1 z hz
      exact ⟨w, List.mem_cons_of_mem _ hw, he⟩
theorem mapM_self {f : Ty -> Option Ty} : ∀ {l : List Ty}, (∀ x ∈ l, f x = some x) -> l.mapM f = some l
  | [], _ => rfl
  | x :: l, h => by
    rw [List.mapM_cons, h x (List.mem_cons_self ..), mapM_self fun y hy => h y (List.mem_cons_of_mem _ hy)]
    rfl
theorem first_mem {all : List Ty} {k : Int} {x : Ty} (h : firstK all k = some x) : x ∈ all /\ kindT x = k :=
  ⟨List.mem_of_find?_eq_some h, by simpa using List.find?_some h⟩
theorem tags_rise : tagsL.Pairwise (· < ·) := by decide
/-- The kinds of what is picked rise. -/
theorem picked_rise (all : List Ty) : (tagsL.filterMap (firstK all)).Pairwise fun a b => kindT a < kindT b := by
  rw [List.pairwise_filterMap]
  refine tags_rise.imp fun {a b} hab x hx y hy => ?_
  rw [(first_mem hx).2, (first_mem hy).2]
  exact hab
theorem picked_mem {all : List Ty} {x : Ty} (h : x ∈ tagsL.filterMap (firstK all)) : x ∈ all /\ 1 <= kindT x /\ kindT x <= 6 := by
  rw [List.mem_filterMap] at h
  obtain ⟨k, hk, hx⟩ := h
  obtain ⟨h1, h2⟩ := first_mem hx
  refine ⟨h1, ?_⟩
  rw [h2]
  simp [tagsL] at hk
  omega
/-- A normal type's members are normal, and no unions. -/
theorem members_norm {n : Nat} {D : Ty} (h : NormT n D) : ∀ t ∈ membersT D, NormT n t /\ kindT t ≠ 7 := by
  cases n with
  | zero => exact h.elim
  | succ n => exact (members_show h).2.2
theorem norm_kind {n : Nat} {D : Ty} (h : NormT n D) : 0 <= kindT D /\ kindT D <= 7 := by
  cases n with
  | zero => exact h.elim
  | succ n =>
    rcases h with ⟨k, h0, h4, rfl⟩ | ⟨ns, ks, rfl, _⟩ | ⟨a, b, rfl, _⟩ | ⟨ks, rfl, _⟩
    · rw [kind_mk]; omega
    · rw [kind_mk]; omega
    · rw [kind_mk]; omega
    · rw [kind_mk]; omega
theorem made_norm {n : Nat} {l : List Ty} {u : Ty} (hl : ∀ x ∈ l, NormT n x /\ 1 <= kindT x /\ kindT x <= 6) (hr : l.Pairwise fun a b => kindT a < kindT b) (h : madeV l = some u) : NormT (n + 1) u := by
  match l, h with
  | [x], h =>
    injection h with h
    subst h
    exact norm_mono (hl x (List.mem_cons_self ..)).1 (Nat.le_succ n)
  | x :: y :: r, h =>
    injection h with h
    subst h
    exact .inr (.inr (.inr ⟨_, rfl, by simp, hl, hr⟩))
theorem union_norm {n : Nat} {ks : List Ty} {u : Ty} (hk : ∀ x ∈ ks, NormT n x) (h : unionV n ks = some u) : NormT (n + 1) u := by
  unfold unionV at h
  split at h
  · cases h
  split at h
  · refine made_norm (fun x hx => ?_) (picked_rise _) h
    obtain ⟨h1, h2⟩ := picked_mem hx
    obtain ⟨y, hy, hxy⟩ := List.mem_flatMap.1 h1
    exact ⟨(members_norm (hk y hy) x hxy).1, h2⟩
  · cases h
theorem record_norm {n : Nat} {ns : List (List UInt8)} {ks : List Ty} {u : Ty} (hk : ∀ x ∈ ks, NormT n x) (h : recordV ns ks = some u) : NormT (n + 1) u := by
  unfold recordV at h
  split at h
  · cases h
  · rename_i hc
    have h1 : ns.length = ks.length /\ ns.length <= 16 := by omega
    rw [Option.map_eq_some_iff] at h
    obtain ⟨l, hl, rfl⟩ := h
    obtain ⟨g1, g2, g3, g4⟩ := recGo_some h1.1 List.Pairwise.nil hl
    have hm : ∀ p ∈ l, p.1 ∈ ns /\ p.2 ∈ ks := fun p hp => by
      rcases (g2 p).1 hp with h | h
      · cases h
      · exact List.of_mem_zip h
    refine .inr (.inl ⟨_, _, rfl, by simp, by simp [g4]; omega, ?_, ?_, ?_⟩)
    · intro s hs
      obtain ⟨p, hp, rfl⟩ := List.mem_map.1 hs
      exact g3 _ (hm p hp).1
    · rw [List.pairwise_map]
      exact g1
    · intro x hx
      obtain ⟨p, hp, rfl⟩ := List.mem_map.1 hx
      exact hk _ (hm p hp).2
/-- What is kept is normal. -/
theorem norm_normal {n : Nat} {D u : Ty} (h : normT n D = some u) : NormT n u := by
  induction n generalizing D u with
  | zero => cases h
  | succ n ih =>
    rw [normT] at h
    split at h
    · rename_i hk
      injection h with h
      subst h
      exact .inl ⟨_, hk.1, hk.2, rfl⟩
    split at h
    · split at h
      · cases h
      · rename_i ks hks
        have hn : ∀ x ∈ ks, NormT n x := fun x hx => by
          obtain ⟨y, _, hy⟩ := (mapM_mem hks).1 x hx
          exact ih hy
        split at h
        · exact record_norm hn h
        split at h
        · unfold funV at h
          split at h
          · rename_i hl
            injection h with h
            subst h
            match ks, hl with
            | [a, b], _ => exact .inr (.inr (.inl ⟨a, b, rfl, hn a (by simp), hn b (by simp)⟩))
          · cases h
        · exact union_norm hn h
    · cases h
/-- Members without unions are themselves. -/
theorem flat_self : ∀ {ks : List Ty}, (∀ x ∈ ks, kindT x ≠ 7) -> ks.flatMap membersT = ks
  | [], _ => rfl
  | x :: ks, h => by
    rw [List.flatMap_cons, flat_self fun y hy => h y (List.mem_cons_of_mem _ hy)]
    unfold membersT
    rw [if_neg (h x (List.mem_cons_self ..))]
    rfl
theorem first_rise : ∀ {ks : List Ty} {x : Ty}, ks.Pairwise (fun a b => kindT a < kindT b) -> x ∈ ks -> firstK ks (kindT x) = some x
  | [], _, _, h => by cases h
  | y :: ks, x, hr, h => by
    rw [List.pairwise_cons] at hr
    unfold firstK
    rw [List.find?_cons]
    rcases List.mem_cons.1 h with rfl | h
    · simp
    · have := hr.1 x h
      have e : (kindT y == kindT x) = false := by rw [beq_eq_false_iff_ne]; omega
      rw [e]
      exact first_rise hr.2 h
theorem picked_self {ks : List Ty} (hr : ks.Pairwise fun a b => kindT a < kindT b) (hk : ∀ x ∈ ks, 1 <= kindT x /\ kindT x <= 6) : tagsL.filterMap (firstK ks) = ks := by
  refine rising_ext (R := fun a b => kindT a < kindT b) (fun a => by omega) (fun a b h1 h2 => by omega) _ _ (picked_rise ks) hr fun x => ⟨fun h => (picked_mem h).1, fun h => ?_⟩
  rw [List.mem_filterMap]
  refine ⟨kindT x, ?_, first_rise hr h⟩
  have := hk x h
  have e : kindT x = 1 ∨ kindT x = 2 ∨ kindT x = 3 ∨ kindT x = 4 ∨ kindT x = 5 ∨ kindT x = 6 := by omega
  simp [tagsL]
  exact e
theorem alike_rise {n : Nat} {ks : List Ty} (hr : ks.Pairwise fun a b => kindT a < kindT b) (hi : ∀ x ∈ ks, IsT n x) : alikeV n ks = true := by
  unfold alikeV
  rw [List.all_eq_true]
  intro x hx
  rw [first_rise hr hx]
  exact same_self (hi x hx)
/-- A normal type is kept as it is. -/
theorem norm_self {n : Nat} {u : Ty} (h : NormT n u) : normT n u = some u := by
  induction n generalizing u with
  | zero => exact h.elim
  | succ n ih =>
    rcases h with ⟨k, h0, h4, rfl⟩ | ⟨ns, ks, rfl, h2, h3, h4, h5, h6⟩ | ⟨a, b, rfl, h2, h3⟩ | ⟨ks, rfl, h2, h3, h4⟩
    · rw [normT, kind_mk, if_pos ⟨h0, h4⟩]
    · rw [normT, kind_mk, kids_mk, names_mk, if_neg (by decide), if_pos (by decide), mapM_self fun x hx => ih (h6 x hx)]
      show recordV ns ks = _
      unfold recordV
      rw [if_neg (by omega), recGo_self h2 h4 h5 (by simp)]
      show some (recT ([] ++ ns.zip ks)) = _
      unfold recT
      rw [List.nil_append, List.map_fst_zip (by omega), List.map_snd_zip (by omega)]
    · rw [normT, kind_mk, kids_mk, if_neg (by decide), if_pos (by decide), mapM_self fun x hx => ?_]
      · rfl
      · rcases List.mem_cons.1 hx with rfl | hx
        · exact ih h2
        · rw [List.mem_singleton.1 hx]
          exact ih h3
    · rw [normT, kind_mk, kids_mk, if_neg (by decide), if_pos (by decide), mapM_self fun x hx => ih (h3 x hx).1]
      show unionV n ks = _
      unfold unionV
      rw [flat_self fun x hx => by have := (h3 x hx).2; omega, if_neg, if_pos (alike_rise h4 fun x hx => is_norm (h3 x hx).1), picked_self h4 fun x hx => (h3 x hx).2]
      · match ks, h2 with
        | x :: y :: r, _ => rfl
      · intro hh
        rw [List.any_eq_true] at hh
        obtain ⟨x, hx, e⟩ := hh
        have := (h3 x hx).2
        have e2 : kindT x = 0 := by simpa using e
        omega
theorem norm_again {n : Nat} {D u : Ty} (h : normT n D = some u) : normT n u = some u := norm_self (norm_normal h)
end Go.Proofs.YtlhmofphpfdjlaaGreatDoor
/- How great types are, and that what is kept is no greater; without a program in sight. -/
namespace Go.Proofs.YtlhmofphpfdjlaaGreatDoor
open Go.Proofs.Tryz
def sizeT : Nat -> Ty -> Nat
  | 0, _ => 0
  | n + 1, D => 1 + ((kidsT D).map (sizeT n)).sum
def maxL : List Nat -> Nat
  | [] => 0
  | a :: r => max a (maxL r)
def heightT : Nat -> Ty -> Nat
  | 0, _ => 0
  | n + 1, D => 1 + maxL ((kidsT D).map (heightT n))
theorem size_more {n m : Nat} {D : Ty} (h : IsT n D) (hm : n <= m) : sizeT m D = sizeT n D := by
  induction n generalizing m D with
  | zero => exact h.elim
  | succ n ih =>
    obtain ⟨m, rfl⟩ : ∃ p, m = p + 1 := ⟨m - 1, by omega⟩
    rw [sizeT, sizeT, List.map_congr_left fun x hx => ih (h.2 x hx) (by omega)]
theorem height_more {n m : Nat} {D : Ty} (h : IsT n D) (hm : n <= m) : heightT m D = heightT n D := by
  induction n generalizing m D with
  | zero => exact h.elim
  | succ n ih =>
    obtain ⟨m, rfl⟩ : ∃ p, m = p + 1 := ⟨m - 1, by omega⟩
    rw [heightT, heightT, List.map_congr_left fun x hx => ih (h.2 x hx) (by omega)]
theorem le_maxL {l : List Nat} {a : Nat} (h : a ∈ l) : a <= maxL l := by
  induction l with
  | nil => cases h
  | cons b r ih =>
    rw [maxL]
    rcases List.mem_cons.1 h with rfl | h
    · exact Nat.le_max_left ..
    · exact Nat.le_trans (ih h) (Nat.le_max_right ..)
theorem maxL_le {l : List Nat} {m : Nat} (h : ∀ a ∈ l, a <= m) : maxL l <= m := by
  induction l with
  | nil => exact Nat.zero_le _
  | cons b r ih =>
    rw [maxL]
    exact Nat.max_le.2 ⟨h b (List.mem_cons_self ..), ih fun a ha => h a (List.mem_cons_of_mem _ ha)⟩
theorem insP_perm {s : List UInt8} {x : Ty} : ∀ {acc l : List (List UInt8 × Ty)}, insP s x acc = some l -> l.Perm ((s, x) :: acc)
  | [], l, h => by
    rw [insP] at h
    injection h with h
    subst h
    exact List.Perm.refl _
  | (t, y) :: r, l, h => by
    rw [insP] at h
    by_cases hlt : ltB t s = true
    · rw [if_pos hlt, Option.map_eq_some_iff] at h
      obtain ⟨m, hm, rfl⟩ := h
      exact ((insP_perm hm).cons _).trans (List.Perm.swap ..)
    · rw [if_neg hlt] at h
      by_cases he : t = s
      · rw [if_pos he] at h; cases h
      · rw [if_neg he] at h
        injection h with h
        subst h
        exact List.Perm.refl _
theorem recGo_perm : ∀ {ns : List (List UInt8)} {ks : List Ty} {acc l : List (List UInt8 × Ty)}, ns.length = ks.length -> recGo ns ks acc = some l -> (l.map (·.2)).Perm (acc.map (·.2) ++ ks)
  | [], [], acc, l, _, h => by
    rw [recGo] at h
    · injection h with h
      subst h
      simp
    · simp
  | [], _ :: _, _, _, hl, _ => by simp at hl
  | _ :: _, [], _, _, hl, _ => by simp at hl
  | s :: ns, x :: ks, acc, l, hl, h => by
    rw [recGo] at h
    by_cases hn : nameV s = true
    · rw [if_pos hn, Option.bind_eq_some_iff] at h
      obtain ⟨m, hm, h⟩ := h
      have h1 := recGo_perm (by simpa using hl) h
      have h2 := (insP_perm hm).map (·.2)
      refine h1.trans ((h2.append_right ks).trans ?_)
      show (x :: (acc.map (·.2) ++ ks)).Perm _
      exact List.perm_middle.symm
    · rw [if_neg hn] at h; cases h
theorem sum_le {f g : Ty -> Nat} : ∀ {l m : List Ty}, l.length = m.length -> (∀ p ∈ l.zip m, f p.1 <= g p.2) -> (l.map f).sum <= (m.map g).sum
  | [], [], _, _ => Nat.le_refl _
  | [], _ :: _, hl, _ => by simp at hl
  | _ :: _, [], hl, _ => by simp at hl
  | a :: l, b :: m, hl, h => by
    have h1 := h (a, b) (by simp)
    have h2 := sum_le (f := f) (g := g) (by simpa using hl) fun p hp => h p (by simp [hp])
    simp only [List.map_cons, List.sum_cons]
    simp only at h1
    omega
theorem mapM_zip {f : Ty -> Option Ty} : ∀ {l m : List Ty}, l.mapM f = some m -> ∀ p ∈ m.zip l, f p.2 = some p.1
  | [], m, h => by
    simp at h
    subst h
    simp
  | x :: l, m, h => by
    rw [List.mapM_cons] at h
    simp only [Option.bind_eq_bind, Option.bind_eq_some_iff, Option.pure_def, Option.some.injEq] at h
    obtain ⟨y, hy, r, hr, rfl⟩ := h
    intro p hp
    rw [List.zip_cons_cons] at hp
    rcases List.mem_cons.1 hp with rfl | hp
    · exact hy
    · exact mapM_zip hr p hp
/-- The first ones are no more than all. -/
theorem first_sum (f : Ty -> Nat) (x : Ty) (all : List Ty) : ∀ {tags : List Int}, tags.Pairwise (· < ·) -> ((tags.filterMap (firstK (x :: all))).map f).sum <= (if kindT x ∈ tags then f x else 0) + ((tags.filterMap (firstK all)).map f).sum
  | [], _ => by simp
  | k :: tags, hr => by
    rw [List.pairwise_cons] at hr
    have ih := first_sum f x all hr.2
    by_cases hk : kindT x = k
    · have hn : kindT x ∉ tags := fun hm => by have := hr.1 _ hm; omega
      rw [if_neg hn] at ih
      have e1 : firstK (x :: all) k = some x := by
        unfold firstK
        rw [List.find?_cons]
        simp [hk]
      rw [List.filterMap_cons, e1, if_pos (by rw [hk]; exact List.mem_cons_self ..), List.filterMap_cons]
      simp only [List.map_cons, List.sum_cons]
      cases firstK all k with
      | none =>
        simp only
        omega
      | some y =>
        simp only [List.map_cons, List.sum_cons]
        omega
    · have e1 : firstK (x :: all) k = firstK all k := by
        unfold firstK
        rw [List.find?_cons]
        have : (kindT x == k) = false := by rw [beq_eq_false_iff_ne]; exact hk
        rw [this]
      have e2 : (kindT x ∈ k :: tags) ↔ kindT x ∈ tags := by
        rw [List.mem_cons]
        exact ⟨fun h => h.resolve_left hk, .inr⟩
      simp only [e2]
      rw [List.filterMap_cons, List.filterMap_cons, e1]
      cases firstK all k with
      | none => exact ih
      | some y =>
        simp only [List.map_cons, List.sum_cons]
        omega
theorem picked_sum (f : Ty -> Nat) : ∀ (all : List Ty), ((tagsL.filterMap (firstK all)).map f).sum <= (all.map f).sum
  | [] => Nat.le_refl _
  | x :: all => by
    have h1 := first_sum f x all tags_rise
    have h2 := picked_sum f all
    simp only [List.map_cons, List.sum_cons]
    split at h1 <;> omega
/-- The members of normal types are no more than they. -/
theorem members_sum {n : Nat} : ∀ {ks : List Ty}, (∀ x ∈ ks, NormT n x) -> ((ks.flatMap membersT).map (sizeT n)).sum <= (ks.map (sizeT n)).sum
  | [], _ => by simp
  | x :: ks, h => by
    have ih := members_sum fun y hy => h y (List.mem_cons_of_mem _ hy)
    have hx := h x (List.mem_cons_self ..)
    rw [List.flatMap_cons, List.map_append, List.sum_append, List.map_cons, List.sum_cons]
    have h1 : ((membersT x).map (sizeT n)).sum <= sizeT n x := by
      unfold membersT
      split
      · cases n with
        | zero => exact hx.elim
        | succ n =>
          have hi := is_norm hx
          have e : (kidsT x).map (sizeT (n + 1)) = (kidsT x).map (sizeT n) := List.map_congr_left fun y hy => size_more (hi.2 y hy) (Nat.le_succ n)
          rw [e, sizeT]
          omega
      · simp
    omega
theorem made_size {n : Nat} {l : List Ty} {u : Ty} (hl : ∀ x ∈ l, IsT n x) (h : madeV l = some u) : sizeT (n + 1) u <= 1 + (l.map (sizeT n)).sum := by
  match l, h with
  | [x], h =>
    injection h with h
    subst h
    rw [size_more (hl x (by simp)) (Nat.le_succ n)]
    simp
  | x :: y :: r, h =>
    injection h with h
    subst h
    rw [sizeT, kids_mk]
    exact Nat.le_refl _
theorem norm_size {n : Nat} {D u : Ty} (h : normT n D = some u) : sizeT n u <= sizeT n D := by
  induction n generalizing D u with
  | zero => cases h
  | succ n ih =>
    rw [normT] at h
    split at h
    · injection h with h
      subst h
      rw [sizeT, sizeT, kids_mk]
      simp
    split at h
    · split at h
      · cases h
      · rename_i ks hks
        have hn : ∀ x ∈ ks, NormT n x := fun x hx => by
          obtain ⟨y, _, hy⟩ := (mapM_mem hks).1 x hx
          exact norm_normal hy
        have hsum : (ks.map (sizeT n)).sum <= ((kidsT D).map (sizeT n)).sum := sum_le (mapM_mem hks).2 fun p hp => ih (mapM_zip hks p hp)
        split at h
        · unfold recordV at h
          split at h
          · cases h
          · rename_i hc
            have h1 : (namesT D).length = ks.length := by omega
            rw [Option.map_eq_some_iff] at h
            obtain ⟨l, hl, rfl⟩ := h
            have hp := recGo_perm h1 hl
            unfold recT
            rw [sizeT, sizeT, kids_mk, (hp.map (sizeT n)).sum_nat]
            simp only [List.map_nil, List.nil_append]
            omega
        split at h
        · unfold funV at h
          split at h
          · injection h with h
            subst h
            rw [sizeT, sizeT, kids_mk]
            omega
          · cases h
        · unfold unionV at h
          split at h
          · cases h
          split at h
          · have hi : ∀ x ∈ tagsL.filterMap (firstK (ks.flatMap membersT)), IsT n x := fun x hx => by
              obtain ⟨y, hy, hxy⟩ := List.mem_flatMap.1 (picked_mem hx).1
              exact is_norm (members_norm (hn y hy) x hxy).1
            have h1 := made_size hi h
            have h2 := picked_sum (sizeT n) (ks.flatMap membersT)
            have h3 := members_sum hn
            have h4 : sizeT (n + 1) D = 1 + ((kidsT D).map (sizeT n)).sum := rfl
            omega
          · cases h
    · cases h
theorem members_height {n : Nat} {x y : Ty} (hx : NormT n x) (hy : y ∈ membersT x) : heightT n y <= heightT n x := by
  unfold membersT at hy
  split at hy
  · cases n with
    | zero => exact hx.elim
    | succ n =>
      have hi := is_norm hx
      rw [height_more (hi.2 y hy) (Nat.le_succ n), heightT]
      have := le_maxL (List.mem_map_of_mem (f := heightT n) hy)
      omega
  · rw [List.mem_singleton.1 hy]
    exact Nat.le_refl _
theorem norm_height {n : Nat} {D u : Ty} (h : normT n D = some u) : heightT n u <= heightT n D := by
  induction n generalizing D u with
  | zero => cases h
  | succ n ih =>
    rw [normT] at h
    split at h
    · injection h with h
      subst h
      rw [heightT, heightT, kids_mk]
      simp [maxL]
    split at h
    · split at h
      · cases h
      · rename_i ks hks
        have hn : ∀ x ∈ ks, NormT n x := fun x hx => by
          obtain ⟨y, _, hy⟩ := (mapM_mem hks).1 x hx
          exact norm_normal hy
        have hh : ∀ x ∈ ks, heightT n x <= maxL ((kidsT D).map (heightT n)) := fun x hx => by
          obtain ⟨y, hm, hy⟩ := (mapM_mem hks).1 x hx
          exact Nat.le_trans (ih hy) (le_maxL (List.mem_map_of_mem hm))
        have kid : ∀ (k : Int) (nm : List UInt8) (ns : List (List UInt8)) (l : List Ty), (∀ x ∈ l, heightT n x <= maxL ((kidsT D).map (heightT n))) -> heightT (n + 1) (mkT k nm ns l) <= heightT (n + 1) D := by
          intro k nm ns l hl
          rw [heightT, heightT, kids_mk]
          have : maxL (l.map (heightT n)) <= maxL ((kidsT D).map (heightT n)) := maxL_le fun a ha => by
            obtain ⟨x, hx, rfl⟩ := List.mem_map.1 ha
            exact hl x hx
          omega
        split at h
        · unfold recordV at h
          split at h
          · cases h
          · rename_i hc
            have h1 : (namesT D).length = ks.length := by omega
            rw [Option.map_eq_some_iff] at h
            obtain ⟨l, hl, rfl⟩ := h
            have hp := recGo_perm h1 hl
            exact kid _ _ _ _ fun x hx => hh x (by simpa using (hp.mem_iff (a := x)).1 hx)
        split at h
        · unfold funV at h
          split at h
          · injection h with h
            subst h
            exact kid _ _ _ _ hh
          · cases h
        · unfold unionV at h
          split at h
          · cases h
          split at h
          · have hl : ∀ x ∈ tagsL.filterMap (firstK (ks.flatMap membersT)), IsT n x /\ heightT n x <= maxL ((kidsT D).map (heightT n)) := fun x hx => by
              obtain ⟨y, hy, hxy⟩ := List.mem_flatMap.1 (picked_mem hx).1
              exact ⟨is_norm (members_norm (hn y hy) x hxy).1, Nat.le_trans (members_height (hn y hy) hxy) (hh y hy)⟩
            generalize tagsL.filterMap (firstK (ks.flatMap membersT)) = l at h hl
            match l, h with
            | [x], h =>
              injection h with h
              subst h
              have h1 := hl x (by simp)
              rw [height_more h1.1 (Nat.le_succ n), heightT]
              omega
            | x :: y :: r, h =>
              injection h with h
              subst h
              exact kid _ _ _ _ fun z hz => (hl z hz).2
          · cases h
    · cases h
end Go.Proofs.YtlhmofphpfdjlaaGreatDoor
