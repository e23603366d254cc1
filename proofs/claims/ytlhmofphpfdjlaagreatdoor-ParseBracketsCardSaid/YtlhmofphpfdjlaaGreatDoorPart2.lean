/- Part. -/
import Derived.Test.YtlhmofphpfdjlaaGreatDoorPart1
set_option maxRecDepth 100000
set_option maxHeartbeats 4000000
/- Types as trees: what the document says of them; without a program in sight. -/
namespace Go.Proofs.YtlhmofphpfdjlaaGreatDoor
open Go.Proofs.Tryz
/-- A type: its kind, its name, its names, the types within it; as a tree of data. -/
abbrev Ty := DataW Unit
def mkT (k : Int) (nm : List UInt8) (ns : List (List UInt8)) (ks : List Ty) : Ty := .agg [.lit (.int .i64 k), .lit (.string nm), .agg (ns.map fun s => .lit (.string s)), .agg ks]
def strD : Ty -> List UInt8
  | .lit (.string s) => s
  | _ => []
def kindT : Ty -> Int
  | .agg (.lit (.int _ k) :: _) => k
  | _ => 0
def nameT : Ty -> List UInt8
  | .agg (_ :: s :: _) => strD s
  | _ => []
def namesT : Ty -> List (List UInt8)
  | .agg (_ :: _ :: .agg l :: _) => l.map strD
  | _ => []
def kidsT : Ty -> List Ty
  | .agg (_ :: _ :: _ :: .agg l :: _) => l
  | _ => []
section
variable (k : Int) (nm : List UInt8) (ns : List (List UInt8)) (ks : List Ty)
theorem kind_mk : kindT (mkT k nm ns ks) = k := rfl
theorem name_mk : nameT (mkT k nm ns ks) = nm := rfl
theorem names_mk : namesT (mkT k nm ns ks) = ns := by
  show (ns.map fun s => (DataW.lit (.string s) : Ty)).map strD = ns
  rw [List.map_map]
  exact List.map_id _
theorem kids_mk : kidsT (mkT k nm ns ks) = ks := rfl
end
theorem mkT_inj {k k' : Int} {nm nm' : List UInt8} {ns ns' : List (List UInt8)} {ks ks' : List Ty} (h : mkT k nm ns ks = mkT k' nm' ns' ks') : k = k' /\ nm = nm' /\ ns = ns' /\ ks = ks' := by
  have h1 := congrArg kindT h
  have h2 := congrArg nameT h
  have h3 := congrArg namesT h
  have h4 := congrArg kidsT h
  rw [names_mk, names_mk] at h3
  exact ⟨h1, h2, h3, h4⟩
/-- Byte by byte below. -/
def ltB : List UInt8 -> List UInt8 -> Bool
  | _, [] => false
  | [], _ :: _ => true
  | a :: r, b :: s => if a.toNat < b.toNat then true else if b.toNat < a.toNat then false else ltB r s
/-- A normal type, at most n deep. -/
def NormT : Nat -> Ty -> Prop
  | 0, _ => False
  | n + 1, D => (∃ k, 0 <= k /\ k <= 4 /\ D = mkT k [] [] []) ∨
    (∃ ns ks, D = mkT 5 [] ns ks /\ ns.length = ks.length /\ ns.length <= 16 /\ (∀ s ∈ ns, nameV s = true) /\ ns.Pairwise (fun a b => ltB a b = true) /\ ∀ x ∈ ks, NormT n x) ∨
    (∃ a b, D = mkT 6 [] [] [a, b] /\ NormT n a /\ NormT n b) ∨
    (∃ ks, D = mkT 7 [] [] ks /\ 2 <= ks.length /\ (∀ x ∈ ks, NormT n x /\ 1 <= kindT x /\ kindT x <= 6) /\ ks.Pairwise fun a b => kindT a < kindT b)
theorem norm_mono {n m : Nat} {D : Ty} (h : NormT n D) (hm : n <= m) : NormT m D := by
  induction n generalizing m D with
  | zero => exact h.elim
  | succ n ih =>
    obtain ⟨m, rfl⟩ : ∃ p, m = p + 1 := ⟨m - 1, by omega⟩
    rcases h with h | ⟨ns, ks, h1, h2, h3, h4, h5, h6⟩ | ⟨a, b, h1, h2, h3⟩ | ⟨ks, h1, h2, h3, h4⟩
    · exact .inl h
    · exact .inr (.inl ⟨ns, ks, h1, h2, h3, h4, h5, fun x hx => ih (h6 x hx) (by omega)⟩)
    · exact .inr (.inr (.inl ⟨a, b, h1, ih h2 (by omega), ih h3 (by omega)⟩))
    · exact .inr (.inr (.inr ⟨ks, h1, h2, fun x hx => ⟨ih (h3 x hx).1 (by omega), (h3 x hx).2⟩, h4⟩))
/-- With this between each two. -/
def joinV (sep : List UInt8) : List (List UInt8) -> List UInt8
  | [] => []
  | [s] => s
  | s :: t :: r => s ++ sep ++ joinV sep (t :: r)
def baseV (k : Int) : List UInt8 := if k = 0 then [97, 110, 121] else if k = 1 then [110, 117, 108, 108] else if k = 2 then [98, 111, 111, 108] else if k = 3 then [105, 110, 116] else [115, 116, 114]
/-- A normal type as text; a function in brackets or not. -/
def showT : Nat -> Bool -> Ty -> List UInt8
  | 0, _, _ => []
  | n + 1, b, D =>
    if kindT D <= 4 then baseV (kindT D)
    else if kindT D = 5 then 123 :: (joinV [44, 32] (List.zipWith (fun s x => s ++ 58 :: 32 :: showT n false x) (namesT D) (kidsT D)) ++ [125])
    else if kindT D = 6 then
      match kidsT D with
      | [x, y] => if b then 40 :: (showT n true x ++ [32, 45, 62, 32] ++ showT n false y ++ [41]) else showT n true x ++ [32, 45, 62, 32] ++ showT n false y
      | _ => []
    else joinV [32, 124, 32] ((kidsT D).map (showT n true))
section
variable {n : Nat} {b : Bool}
theorem show_base {k : Int} (h : k <= 4) (nm : List UInt8) (ns : List (List UInt8)) (ks : List Ty) : showT (n + 1) b (mkT k nm ns ks) = baseV k := by
  rw [showT, kind_mk, if_pos h]
theorem show_rec (nm : List UInt8) (ns : List (List UInt8)) (ks : List Ty) : showT (n + 1) b (mkT 5 nm ns ks) = 123 :: (joinV [44, 32] (List.zipWith (fun s x => s ++ 58 :: 32 :: showT n false x) ns ks) ++ [125]) := by
  rw [showT, kind_mk, names_mk, kids_mk, if_neg (by decide), if_pos rfl]
theorem show_fun (nm : List UInt8) (ns : List (List UInt8)) (x y : Ty) : showT (n + 1) b (mkT 6 nm ns [x, y]) = if b then 40 :: (showT n true x ++ [32, 45, 62, 32] ++ showT n false y ++ [41]) else showT n true x ++ [32, 45, 62, 32] ++ showT n false y := by
  rw [showT, kind_mk, kids_mk, if_neg (by decide), if_neg (by decide), if_pos rfl]
theorem show_union (nm : List UInt8) (ns : List (List UInt8)) (ks : List Ty) : showT (n + 1) b (mkT 7 nm ns ks) = joinV [32, 124, 32] (ks.map (showT n true)) := by
  rw [showT, kind_mk, kids_mk, if_neg (by decide), if_neg (by decide), if_neg (by decide)]
end
theorem zip_congr {f g : List UInt8 -> Ty -> List UInt8} : ∀ (ns : List (List UInt8)) (ks : List Ty), (∀ s x, x ∈ ks -> f s x = g s x) -> List.zipWith f ns ks = List.zipWith g ns ks
  | [], _, _ => by simp
  | _ :: _, [], _ => by simp
  | s :: ns, x :: ks, h => by
    rw [List.zipWith_cons_cons, List.zipWith_cons_cons, h s x (List.mem_cons_self ..), zip_congr ns ks fun s x hx => h s x (List.mem_cons_of_mem _ hx)]
theorem show_more {n m : Nat} {D : Ty} (h : NormT n D) (hm : n <= m) (b : Bool) : showT m b D = showT n b D := by
  induction n generalizing m D b with
  | zero => exact h.elim
  | succ n ih =>
    obtain ⟨m, rfl⟩ : ∃ p, m = p + 1 := ⟨m - 1, by omega⟩
    rcases h with ⟨k, h0, h4, rfl⟩ | ⟨ns, ks, rfl, h2, h3, h4, h5, h6⟩ | ⟨x, y, rfl, h2, h3⟩ | ⟨ks, rfl, h2, h3, h4⟩
    · rw [show_base h4, show_base h4]
    · rw [show_rec, show_rec]
      congr 3
      exact zip_congr ns ks fun s x hx => by rw [ih (h6 x hx) (by omega)]
    · rw [show_fun, show_fun, ih h2 (by omega), ih h3 (by omega)]
    · rw [show_union, show_union]
      congr 1
      exact List.map_congr_left fun x hx => ih (h3 x hx).1 (by omega) true
end Go.Proofs.YtlhmofphpfdjlaaGreatDoor
/- Two normal types that are shown alike are the same; without a program in sight. -/
namespace Go.Proofs.YtlhmofphpfdjlaaGreatDoor
open Go.Proofs.Tryz
/-- A word ends here. -/
def StopB (x : List UInt8) : Prop := ∀ c r, x = c :: r -> inNm c = false
/-- No other member comes here. -/
def NoBar (x : List UInt8) : Prop := ∀ r, x ≠ 32 :: 124 :: 32 :: r
/-- A type ends here. -/
def ShutB (x : List UInt8) : Prop := ∀ c r, x = c :: r -> c = 44 ∨ c = 125 ∨ c = 41
theorem shut_stop {x : List UInt8} (h : ShutB x) : StopB x := fun c r e => by
  rcases h c r e with rfl | rfl | rfl <;> decide
theorem shut_bar {x : List UInt8} (h : ShutB x) : NoBar x := fun r e => by
  rcases h _ _ e with h | h | h <;> exact absurd h (by decide)
theorem no_bar_arrow (r : List UInt8) : NoBar (32 :: 45 :: r) := fun q e => by
  injection e with _ e
  injection e with e _
  exact absurd e (by decide)
theorem stop_cons {c : UInt8} (h : inNm c = false) (r : List UInt8) : StopB (c :: r) := fun c' r' e => by
  injection e with e1 e2
  rw [<- e1]
  exact h
theorem shut_cons {c : UInt8} (h : c = 44 ∨ c = 125 ∨ c = 41) (r : List UInt8) : ShutB (c :: r) := fun c' r' e => by
  injection e with e1 e2
  rw [<- e1]
  exact h
theorem word_eq : ∀ (s t x y : List UInt8), s.all inNm = true -> t.all inNm = true -> StopB x -> StopB y -> s ++ x = t ++ y -> s = t /\ x = y
  | [], [], x, y, _, _, _, _, h => ⟨rfl, h⟩
  | [], c :: t, x, y, _, ht, hx, _, h => by
    have := hx c (t ++ y) h
    simp only [List.all_cons, Bool.and_eq_true] at ht
    rw [ht.1] at this
    cases this
  | c :: s, [], x, y, hs, _, _, hy, h => by
    have := hy c (s ++ x) h.symm
    simp only [List.all_cons, Bool.and_eq_true] at hs
    rw [hs.1] at this
    cases this
  | c :: s, d :: t, x, y, hs, ht, hx, hy, h => by
    simp only [List.all_cons, Bool.and_eq_true] at hs ht
    injection h with h1 h2
    obtain ⟨e, e2⟩ := word_eq s t x y hs.2 ht.2 hx hy h2
    exact ⟨by rw [h1, e], e2⟩
theorem base_all (k : Int) : (baseV k).all inNm = true := by
  unfold baseV
  repeat' split
  all_goals decide
theorem base_head (k : Int) : ∃ c r, baseV k = c :: r /\ inNm c = true := by
  unfold baseV
  repeat' split
  all_goals exact ⟨_, _, rfl, by decide⟩
theorem base_inj {k k' : Int} (h0 : 0 <= k) (h4 : k <= 4) (h0' : 0 <= k') (h4' : k' <= 4) (h : baseV k = baseV k') : k = k' := by
  have h1 : k = 0 ∨ k = 1 ∨ k = 2 ∨ k = 3 ∨ k = 4 := by omega
  have h2 : k' = 0 ∨ k' = 1 ∨ k' = 2 ∨ k' = 3 ∨ k' = 4 := by omega
  rcases h1 with rfl | rfl | rfl | rfl | rfl <;> rcases h2 with rfl | rfl | rfl | rfl | rfl <;> first | rfl | (exfalso; revert h; decide)
theorem name_all {s : List UInt8} (h : nameV s = true) : s.all inNm = true /\ ∃ c r, s = c :: r /\ inNm c = true := by
  cases s with
  | nil => cases h
  | cons c r =>
    unfold nameV at h
    simp only [Bool.and_eq_true] at h
    have ha := h.1.2
    refine ⟨ha, c, r, rfl, ?_⟩
    simp only [List.all_cons, Bool.and_eq_true] at ha
    exact ha.1
def ShowA (n : Nat) : Prop := ∀ a b x y, NormT n a -> NormT n b -> kindT a ≠ 7 -> kindT b ≠ 7 -> StopB x -> StopB y -> showT n true a ++ x = showT n true b ++ y -> a = b /\ x = y
def ShowU (n : Nat) : Prop := ∀ a b x y, NormT n a -> NormT n b -> StopB x -> StopB y -> NoBar x -> NoBar y -> showT n true a ++ x = showT n true b ++ y -> a = b /\ x = y
def ShowF (n : Nat) : Prop := ∀ a b x y, NormT n a -> NormT n b -> ShutB x -> ShutB y -> showT n false a ++ x = showT n false b ++ y -> a = b /\ x = y
theorem join_one (sep s z : List UInt8) : joinV sep [s] ++ z = s ++ z := rfl
theorem join_more (sep s t : List UInt8) (r : List (List UInt8)) (z : List UInt8) : joinV sep (s :: t :: r) ++ z = s ++ (sep ++ (joinV sep (t :: r) ++ z)) := by
  rw [joinV]
  simp
/-- A record's fields, as text. -/
def fieldsV (n : Nat) (ns : List (List UInt8)) (ks : List Ty) : List (List UInt8) := List.zipWith (fun s x => s ++ 58 :: 32 :: showT n false x) ns ks
theorem fields_eq {n : Nat} (hF : ShowF n) : ∀ (ns ns' : List (List UInt8)) (ks ks' : List Ty) (x y : List UInt8), ns.length = ks.length -> ns'.length = ks'.length -> (∀ s ∈ ns, nameV s = true) -> (∀ s ∈ ns', nameV s = true) ->
    (∀ t ∈ ks, NormT n t) -> (∀ t ∈ ks', NormT n t) -> joinV [44, 32] (fieldsV n ns ks) ++ 125 :: x = joinV [44, 32] (fieldsV n ns' ks') ++ 125 :: y -> ns = ns' /\ ks = ks' /\ x = y
  | [], [], ks, ks', x, y, hl, hl', _, _, _, _, h => by
    have e1 : ks = [] := List.eq_nil_of_length_eq_zero hl.symm
    have e2 : ks' = [] := List.eq_nil_of_length_eq_zero hl'.symm
    subst e1 e2
    injection h with _ h
    exact ⟨rfl, rfl, h⟩
  | [], s' :: ns', ks, [], x, y, _, hl', _, _, _, _, _ => by simp at hl'
  | [], s' :: ns', ks, k' :: ks', x, y, hl, _, _, hn', _, _, h => by
    obtain ⟨_, c, r, e, hc⟩ := name_all (hn' s' (List.mem_cons_self ..))
    have e1 : ks = [] := List.eq_nil_of_length_eq_zero hl.symm
    subst e1 e
    have e2 : ∃ z, joinV [44, 32] (fieldsV n ((c :: r) :: ns') (k' :: ks')) ++ 125 :: y = c :: z := by
      unfold fieldsV
      rw [List.zipWith_cons_cons]
      cases List.zipWith (fun s x => s ++ 58 :: 32 :: showT n false x) ns' ks' with
      | nil => exact ⟨_, rfl⟩
      | cons a b => exact ⟨_, rfl⟩
    obtain ⟨z, hz⟩ := e2
    rw [hz] at h
    injection h with h _
    subst h
    exact absurd hc (by decide)
  | s :: ns, _, [], ks', x, y, hl, _, _, _, _, _, _ => by simp at hl
  | s :: ns, [], k :: ks, ks', x, y, _, hl', hn, _, _, _, h => by
    obtain ⟨_, c, r, e, hc⟩ := name_all (hn s (List.mem_cons_self ..))
    have e1 : ks' = [] := List.eq_nil_of_length_eq_zero hl'.symm
    subst e1 e
    have e2 : ∃ z, joinV [44, 32] (fieldsV n ((c :: r) :: ns) (k :: ks)) ++ 125 :: x = c :: z := by
      unfold fieldsV
      rw [List.zipWith_cons_cons]
      cases List.zipWith (fun s x => s ++ 58 :: 32 :: showT n false x) ns ks with
      | nil => exact ⟨_, rfl⟩
      | cons a b => exact ⟨_, rfl⟩
    obtain ⟨z, hz⟩ := e2
    rw [hz] at h
    injection h with h _
    subst h
    exact absurd hc (by decide)
  | s :: ns, s' :: ns', k :: ks, [], x, y, _, hl', _, _, _, _, _ => by simp at hl'
  | s :: ns, s' :: ns', k :: ks, k' :: ks', x, y, hl, hl', hn, hn', hk, hk', h => by
    have tl : ∀ (ns : List (List UInt8)) (ks : List Ty) (z : List UInt8), ns.length = ks.length -> ∃ q, ShutB q /\ (∀ (s : List UInt8) (k : Ty), joinV [44, 32] (fieldsV n (s :: ns) (k :: ks)) ++ 125 :: z = s ++ 58 :: 32 :: (showT n false k ++ q)) /\
        ((ns = [] /\ q = 125 :: z) ∨ (ns ≠ [] /\ q = 44 :: 32 :: (joinV [44, 32] (fieldsV n ns ks) ++ 125 :: z))) := by
      intro ns ks z hl
      match ns, ks, hl with
      | [], [], _ => exact ⟨125 :: z, shut_cons (by decide) _, fun s k => by simp [fieldsV, joinV], .inl ⟨rfl, rfl⟩⟩
      | s2 :: ns, k2 :: ks, _ =>
        refine ⟨44 :: 32 :: (joinV [44, 32] (fieldsV n (s2 :: ns) (k2 :: ks)) ++ 125 :: z), shut_cons (by decide) _, fun s k => ?_, .inr ⟨by simp, rfl⟩⟩
        show joinV [44, 32] ((s ++ 58 :: 32 :: showT n false k) :: (s2 ++ 58 :: 32 :: showT n false k2) :: fieldsV n ns ks) ++ 125 :: z = _
        rw [join_more]
        simp [fieldsV]
    obtain ⟨q, hq, he, hw⟩ := tl ns ks x (by simpa using hl)
    obtain ⟨q', hq', he', hw'⟩ := tl ns' ks' y (by simpa using hl')
    rw [he, he'] at h
    obtain ⟨e1, g⟩ := word_eq s s' _ _ (name_all (hn s (List.mem_cons_self ..))).1 (name_all (hn' s' (List.mem_cons_self ..))).1 (stop_cons (by decide) _) (stop_cons (by decide) _) h
    injection g with _ g
    injection g with _ g
    obtain ⟨e2, f⟩ := hF k k' q q' (hk k (List.mem_cons_self ..)) (hk' k' (List.mem_cons_self ..)) hq hq' g
    clear h g he he' hq hq' tl
    subst e1 e2
    rcases hw with ⟨rfl, rfl⟩ | ⟨hne, rfl⟩
    · rcases hw' with ⟨rfl, rfl⟩ | ⟨hne', rfl⟩
      · have e3 : ks = [] := List.eq_nil_of_length_eq_zero (by simpa using hl.symm)
        have e4 : ks' = [] := List.eq_nil_of_length_eq_zero (by simpa using hl'.symm)
        subst e3 e4
        injection f with _ f
        exact ⟨rfl, rfl, f⟩
      · injection f with f _
        exact absurd f (by decide)
    · rcases hw' with ⟨rfl, rfl⟩ | ⟨hne', rfl⟩
      · injection f with f _
        exact absurd f (by decide)
      · injection f with _ f
        injection f with _ f
        obtain ⟨e3, e4, e5⟩ := fields_eq hF ns ns' ks ks' x y (by simpa using hl) (by simpa using hl') (fun s hs => hn s (List.mem_cons_of_mem _ hs)) (fun s hs => hn' s (List.mem_cons_of_mem _ hs))
          (fun t ht => hk t (List.mem_cons_of_mem _ ht)) (fun t ht => hk' t (List.mem_cons_of_mem _ ht)) f
        subst e3 e4 e5
        exact ⟨rfl, rfl, rfl⟩
theorem members_eq {n : Nat} (hA : ShowA n) : ∀ (us bs : List Ty) (x y : List UInt8), us ≠ [] -> bs ≠ [] -> (∀ t ∈ us, NormT n t /\ kindT t ≠ 7) -> (∀ t ∈ bs, NormT n t /\ kindT t ≠ 7) -> StopB x -> StopB y -> NoBar x -> NoBar y ->
    joinV [32, 124, 32] (us.map (showT n true)) ++ x = joinV [32, 124, 32] (bs.map (showT n true)) ++ y -> us = bs /\ x = y
  | [], _, _, _, h, _, _, _, _, _, _, _, _ => absurd rfl h
  | _ :: _, [], _, _, _, h, _, _, _, _, _, _, _ => absurd rfl h
  | [a], [b], x, y, _, _, ha, hb, hx, hy, _, _, h => by
    obtain ⟨e, h⟩ := hA a b x y (ha a (by simp)).1 (hb b (by simp)).1 (ha a (by simp)).2 (hb b (by simp)).2 hx hy h
    exact ⟨by rw [e], h⟩
  | [a], b :: b2 :: bs, x, y, _, _, ha, hb, hx, _, hnx, _, h => by
    rw [List.map_cons, List.map_cons, List.map_cons, join_more] at h
    obtain ⟨e, h⟩ := hA a b x _ (ha a (by simp)).1 (hb b (by simp)).1 (ha a (by simp)).2 (hb b (by simp)).2 hx (stop_cons (by decide) _) h
    exact absurd h (hnx _)
  | a :: a2 :: us, [b], x, y, _, _, ha, hb, _, hy, _, hny, h => by
    rw [List.map_cons, List.map_cons, List.map_cons, join_more] at h
    obtain ⟨e, h⟩ := hA a b _ y (ha a (by simp)).1 (hb b (by simp)).1 (ha a (by simp)).2 (hb b (by simp)).2 (stop_cons (by decide) _) hy h
    exact absurd h.symm (hny _)
  | a :: a2 :: us, b :: b2 :: bs, x, y, _, _, ha, hb, hx, hy, hnx, hny, h => by
    rw [List.map_cons, List.map_cons, List.map_cons, List.map_cons, join_more, join_more] at h
    obtain ⟨e, h⟩ := hA a b _ _ (ha a (by simp)).1 (hb b (by simp)).1 (ha a (by simp)).2 (hb b (by simp)).2 (stop_cons (by decide) _) (stop_cons (by decide) _) h
    injection h with _ h
    injection h with _ h
    injection h with _ h
    obtain ⟨e2, h⟩ := members_eq hA (a2 :: us) (b2 :: bs) x y (by simp) (by simp) (fun t ht => ha t (List.mem_cons_of_mem _ ht)) (fun t ht => hb t (List.mem_cons_of_mem _ ht)) hx hy hnx hny h
    exact ⟨by rw [e, e2], h⟩
theorem showA_step {n : Nat} (hU : ShowU n) (hF : ShowF n) : ShowA (n + 1) := by
  intro a b x y ha hb ka kb hx hy h
  rcases ha with ⟨k, k0, k4, rfl⟩ | ⟨ns, ks, rfl, l1, _, l3, _, l5⟩ | ⟨a0, a1, rfl, m0, m1⟩ | ⟨ks, rfl, _⟩
  · obtain ⟨c, r, hc, hi⟩ := base_head k
    rcases hb with ⟨k', k0', k4', rfl⟩ | ⟨ns', ks', rfl, _⟩ | ⟨b0, b1, rfl, _⟩ | ⟨ks', rfl, _⟩
    · rw [show_base k4, show_base k4'] at h
      obtain ⟨e, h⟩ := word_eq _ _ x y (base_all k) (base_all k') hx hy h
      rw [base_inj k0 k4 k0' k4' e]
      exact ⟨rfl, h⟩
    · rw [show_base k4, show_rec, hc] at h
      injection h with h _
      subst h
      exact absurd hi (by decide)
    · rw [show_base k4, show_fun, hc, if_pos rfl] at h
      injection h with h _
      subst h
      exact absurd hi (by decide)
    · exact absurd rfl kb
  · rcases hb with ⟨k', k0', k4', rfl⟩ | ⟨ns', ks', rfl, l1', _, l3', _, l5'⟩ | ⟨b0, b1, rfl, _⟩ | ⟨ks', rfl, _⟩
    · obtain ⟨c, r, hc, hi⟩ := base_head k'
      rw [show_base k4', show_rec, hc] at h
      injection h with h _
      subst h
      exact absurd hi (by decide)
    · rw [show_rec, show_rec, List.cons_append, List.cons_append] at h
      injection h with _ h
      rw [List.append_assoc, List.append_assoc] at h
      obtain ⟨e1, e2, e3⟩ := fields_eq hF ns ns' ks ks' x y l1 l1' l3 l3' l5 l5' h
      rw [e1, e2]
      exact ⟨rfl, e3⟩
    · rw [show_rec, show_fun, if_pos rfl] at h
      injection h with h _
      exact absurd h (by decide)
    · exact absurd rfl kb
  · rcases hb with ⟨k', k0', k4', rfl⟩ | ⟨ns', ks', rfl, _⟩ | ⟨b0, b1, rfl, m0', m1'⟩ | ⟨ks', rfl, _⟩
    · obtain ⟨c, r, hc, hi⟩ := base_head k'
      rw [show_base k4', show_fun, hc, if_pos rfl] at h
      injection h with h _
      subst h
      exact absurd hi (by decide)
    · rw [show_rec, show_fun, if_pos rfl] at h
      injection h with h _
      exact absurd h (by decide)
    · rw [show_fun, show_fun, if_pos rfl, if_pos rfl, List.cons_append, List.cons_append] at h
      injection h with _ h
      simp only [List.append_assoc, List.cons_append, List.nil_append] at h
      obtain ⟨e1, h⟩ := hU a0 b0 _ _ m0 m0' (stop_cons (by decide) _) (stop_cons (by decide) _) (no_bar_arrow _) (no_bar_arrow _) h
      injection h with _ h
      injection h with _ h
      injection h with _ h
      injection h with _ h
      obtain ⟨e2, h⟩ := hF a1 b1 _ _ m1 m1' (shut_cons (by decide) _) (shut_cons (by decide) _) h
      injection h with _ h
      rw [e1, e2]
      exact ⟨rfl, h⟩
    · exact absurd rfl kb
  · exact absurd rfl ka
/-- A union's members; of another type itself. -/
def membersT (D : Ty) : List Ty := if kindT D = 7 then kidsT D else [D]
theorem members_show {n : Nat} {D : Ty} (h : NormT (n + 1) D) : showT (n + 1) true D = joinV [32, 124, 32] ((membersT D).map (showT (n + 1) true)) /\ membersT D ≠ [] /\ ∀ t ∈ membersT D, NormT (n + 1) t /\ kindT t ≠ 7 := by
  by_cases hk : kindT D = 7
  · rcases h with ⟨k, k0, k4, rfl⟩ | ⟨ns, ks, rfl, _⟩ | ⟨a0, a1, rfl, _⟩ | ⟨ks, rfl, h2, h3, _⟩
    · rw [kind_mk] at hk
      omega
    · exact absurd hk (by rw [kind_mk]; decide)
    · exact absurd hk (by rw [kind_mk]; decide)
    · unfold membersT
      rw [if_pos hk, kids_mk, show_union]
      refine ⟨?_, ?_, ?_⟩
      · congr 1
        exact List.map_congr_left fun x hx => (show_more (h3 x hx).1 (Nat.le_succ n) true).symm
      · intro e
        rw [e] at h2
        simp at h2
      · intro t ht
        exact ⟨norm_mono (h3 t ht).1 (Nat.le_succ n), by have := (h3 t ht).2; omega⟩
  · unfold membersT
    rw [if_neg hk]
    refine ⟨rfl, by simp, ?_⟩
    intro t ht
    rw [List.mem_singleton.1 ht]
    exact ⟨h, hk⟩
theorem members_inj {n : Nat} {a b : Ty} (ha : NormT n a) (hb : NormT n b) (h : membersT a = membersT b) : a = b := by
  obtain ⟨n, rfl⟩ : ∃ p, n = p + 1 := by
    cases n with
    | zero => exact ha.elim
    | succ n => exact ⟨n, rfl⟩
  have shape : ∀ D, NormT (n + 1) D -> kindT D = 7 -> D = mkT 7 [] [] (kidsT D) /\ 2 <= (kidsT D).length := by
    intro D hD hk
    rcases hD with ⟨k, k0, k4, rfl⟩ | ⟨ns, ks, rfl, _⟩ | ⟨a0, a1, rfl, _⟩ | ⟨ks, rfl, h2, _⟩
    · rw [kind_mk] at hk; omega
    · exact absurd hk (by rw [kind_mk]; decide)
    · exact absurd hk (by rw [kind_mk]; decide)
    · exact ⟨rfl, h2⟩
  unfold membersT at h
  by_cases ka : kindT a = 7
  · obtain ⟨ea, la⟩ := shape a ha ka
    rw [if_pos ka] at h
    by_cases kb : kindT b = 7
    · obtain ⟨eb, _⟩ := shape b hb kb
      rw [if_pos kb] at h
      rw [ea, eb, h]
    · rw [if_neg kb] at h
      rw [h] at la
      simp at la
  · rw [if_neg ka] at h
    by_cases kb : kindT b = 7
    · obtain ⟨_, lb⟩ := shape b hb kb
      rw [if_pos kb] at h
      rw [<- h] at lb
      simp at lb
    · rw [if_neg kb] at h
      injection h
theorem showU_step {n : Nat} (hA : ShowA (n + 1)) : ShowU (n + 1) := by
  intro a b x y ha hb hx hy nx ny h
  obtain ⟨e1, n1, m1⟩ := members_show ha
  obtain ⟨e2, n2, m2⟩ := members_show hb
  rw [e1, e2] at h
  obtain ⟨e, h⟩ := members_eq hA _ _ x y n1 n2 m1 m2 hx hy nx ny h
  exact ⟨members_inj ha hb e, h⟩
theorem show_flat {n : Nat} {D : Ty} (h : kindT D ≠ 6) : showT (n + 1) false D = showT (n + 1) true D := by
  rw [showT, showT]
  by_cases h4 : kindT D <= 4
  · rw [if_pos h4, if_pos h4]
  rw [if_neg h4, if_neg h4]
  by_cases h5 : kindT D = 5
  · rw [if_pos h5, if_pos h5]
  rw [if_neg h5, if_neg h5, if_neg h, if_neg h]
theorem fun_shape {n : Nat} {D : Ty} (h : NormT (n + 1) D) (hk : kindT D = 6) : ∃ a b, D = mkT 6 [] [] [a, b] /\ NormT n a /\ NormT n b := by
  rcases h with ⟨k, k0, k4, rfl⟩ | ⟨ns, ks, rfl, _⟩ | h | ⟨ks, rfl, _⟩
  · rw [kind_mk] at hk; omega
  · exact absurd hk (by rw [kind_mk]; decide)
  · exact h
  · exact absurd hk (by rw [kind_mk]; decide)
theorem showF_step {n : Nat} (hU : ShowU n) (hU1 : ShowU (n + 1)) (hF : ShowF n) : ShowF (n + 1) := by
  intro a b x y ha hb hx hy h
  have one : ∀ a b x y, NormT (n + 1) a -> NormT (n + 1) b -> kindT a = 6 -> kindT b ≠ 6 -> ShutB y -> showT (n + 1) false a ++ x = showT (n + 1) false b ++ y -> False := by
    intro a b x y ha hb ka kb hy h
    obtain ⟨a0, a1, rfl, m0, m1⟩ := fun_shape ha ka
    rw [show_fun, show_flat kb, if_neg (by decide), <- show_more m0 (Nat.le_succ n) true] at h
    simp only [List.append_assoc, List.cons_append, List.nil_append] at h
    obtain ⟨_, h⟩ := hU1 a0 b _ y (norm_mono m0 (Nat.le_succ n)) hb (stop_cons (by decide) _) (shut_stop hy) (no_bar_arrow _) (shut_bar hy) h
    rcases hy _ _ h.symm with h | h | h <;> exact absurd h (by decide)
  by_cases ka : kindT a = 6
  · by_cases kb : kindT b = 6
    · obtain ⟨a0, a1, rfl, m0, m1⟩ := fun_shape ha ka
      obtain ⟨b0, b1, rfl, m0', m1'⟩ := fun_shape hb kb
      rw [show_fun, show_fun, if_neg (by decide), if_neg (by decide)] at h
      simp only [List.append_assoc, List.cons_append, List.nil_append] at h
      obtain ⟨e1, h⟩ := hU a0 b0 _ _ m0 m0' (stop_cons (by decide) _) (stop_cons (by decide) _) (no_bar_arrow _) (no_bar_arrow _) h
      injection h with _ h
      injection h with _ h
      injection h with _ h
      injection h with _ h
      obtain ⟨e2, h⟩ := hF a1 b1 x y m1 m1' hx hy h
      rw [e1, e2]
      exact ⟨rfl, h⟩
    · exact (one a b x y ha hb ka kb hy h).elim
  · by_cases kb : kindT b = 6
    · exact (one b a y x hb ha kb ka hx h.symm).elim
    · rw [show_flat ka, show_flat kb] at h
      exact hU1 a b x y ha hb (shut_stop hx) (shut_stop hy) (shut_bar hx) (shut_bar hy) h
theorem show_all (n : Nat) : ShowU n /\ ShowF n := by
  induction n with
  | zero => exact ⟨fun a _ _ _ h => h.elim, fun a _ _ _ h => h.elim⟩
  | succ n ih =>
    have hU := showU_step (showA_step ih.1 ih.2)
    exact ⟨hU, showF_step ih.1 hU ih.2⟩
/-- Two normal types that are shown alike are the same. -/
theorem show_inj {n m : Nat} {a b : Ty} (ha : NormT n a) (hb : NormT m b) (h : showT n false a = showT m false b) : a = b := by
  have h1 := show_more ha (Nat.le_max_left n m) false
  have h2 := show_more hb (Nat.le_max_right n m) false
  rw [<- h1, <- h2] at h
  have hx : ShutB [] := fun c r e => by cases e
  exact ((show_all (max n m)).2 a b [] [] (norm_mono ha (Nat.le_max_left n m)) (norm_mono hb (Nat.le_max_right n m)) hx hx (by rw [List.append_nil, List.append_nil]; exact h)).1
end Go.Proofs.YtlhmofphpfdjlaaGreatDoor
