/- Part. -/
import Derived.ChangeArms
import Derived.SizedLaws
import Derived.Below
import Derived.WalkSmall
import Derived.Laws.Rows
import Derived.Deep.WholeRow
import Derived.Test.YtlhmofphpfdjlaaGreatDoorPart3
set_option maxRecDepth 100000
set_option maxHeartbeats 4000000
/- Unions and records whose parts stand in another order, and what stands within a normal type; without a program in sight. -/
namespace Go.Proofs.YtlhmofphpfdjlaaGreatDoor
open Go.Proofs.Tryz
theorem member_kinds {n : Nat} {t : Ty} (ht : NormT n t) (h0 : kindT t ≠ 0) : ∀ x ∈ membersT t, 1 <= kindT x /\ kindT x <= 6 := by
  intro x hx
  have hm := members_norm ht x hx
  have hk := norm_kind hm.1
  refine ⟨?_, by omega⟩
  unfold membersT at hx
  split at hx
  · rename_i h7
    cases n with
    | zero => exact ht.elim
    | succ n =>
      rcases ht with ⟨k, k0, k4, rfl⟩ | ⟨ns, ks, rfl, _⟩ | ⟨a, b, rfl, _⟩ | ⟨ks, rfl, _, h3, _⟩
      · rw [kind_mk] at h7; omega
      · exact absurd h7 (by rw [kind_mk]; decide)
      · exact absurd h7 (by rw [kind_mk]; decide)
      · exact (h3 x hx).2.1
  · rw [List.mem_singleton.1 hx] at hk ⊢
    omega
theorem member_rise {n : Nat} {t : Ty} (ht : NormT n t) : (membersT t).Pairwise fun a b => kindT a < kindT b := by
  unfold membersT
  split
  · rename_i h7
    cases n with
    | zero => exact ht.elim
    | succ n =>
      rcases ht with ⟨k, k0, k4, rfl⟩ | ⟨ns, ks, rfl, _⟩ | ⟨a, b, rfl, _⟩ | ⟨ks, rfl, _, _, h4⟩
      · rw [kind_mk] at h7; omega
      · exact absurd h7 (by rw [kind_mk]; decide)
      · exact absurd h7 (by rw [kind_mk]; decide)
      · exact h4
  · exact List.pairwise_singleton ..
theorem member_made {n : Nat} {t : Ty} (ht : NormT n t) : madeV (membersT t) = some t := by
  unfold membersT
  split
  · rename_i h7
    cases n with
    | zero => exact ht.elim
    | succ n =>
      rcases ht with ⟨k, k0, k4, rfl⟩ | ⟨ns, ks, rfl, _⟩ | ⟨a, b, rfl, _⟩ | ⟨ks, rfl, h2, _⟩
      · rw [kind_mk] at h7; omega
      · exact absurd h7 (by rw [kind_mk]; decide)
      · exact absurd h7 (by rw [kind_mk]; decide)
      · rw [kids_mk]
        match ks, h2 with
        | x :: y :: r, _ => rfl
  · rfl
/-- In a list that rises by kinds, two of one kind are the same. -/
theorem rise_one {l : List Ty} (hr : l.Pairwise fun a b => kindT a < kindT b) {x y : Ty} (hx : x ∈ l) (hy : y ∈ l) (h : kindT x = kindT y) : x = y := by
  have h1 := first_rise hr hx
  have h2 := first_rise hr hy
  rw [h, h2] at h1
  exact (Option.some.inj h1).symm
/-- A union of a normal type's members, in whatever order and however often, is that type. -/
theorem union_turn {n : Nat} {t : Ty} {us : List Ty} (ht : NormT n t) (h0 : kindT t ≠ 0) (h1 : ∀ x ∈ us, x ∈ membersT t) (h2 : ∀ x ∈ membersT t, x ∈ us) : normT (n + 1) (mkT 7 [] [] us) = some t := by
  have hn : ∀ x ∈ us, NormT n x /\ kindT x ≠ 7 := fun x hx => members_norm ht x (h1 x hx)
  have hk : ∀ x ∈ us, 1 <= kindT x /\ kindT x <= 6 := fun x hx => member_kinds ht h0 x (h1 x hx)
  have hr := member_rise ht
  have hfirst : ∀ x ∈ us, firstK us (kindT x) = some x := by
    intro x hx
    cases hf : firstK us (kindT x) with
    | none =>
      unfold firstK at hf
      rw [List.find?_eq_none] at hf
      exact absurd (hf x hx) (by simp)
    | some y =>
      obtain ⟨g1, g2⟩ := first_mem hf
      rw [rise_one hr (h1 y g1) (h1 x hx) g2]
  rw [normT, kind_mk, kids_mk, if_neg (by decide), if_pos (by decide), mapM_self fun x hx => norm_self (hn x hx).1]
  show unionV n us = _
  unfold unionV
  rw [flat_self fun x hx => (hn x hx).2, if_neg, if_pos]
  · have e : tagsL.filterMap (firstK us) = membersT t := by
      refine rising_ext (R := fun a b => kindT a < kindT b) (fun a => by omega) (fun a b h1 h2 => by omega) _ _ (picked_rise us) hr fun x => ⟨fun h => h1 x (picked_mem h).1, fun h => ?_⟩
      rw [List.mem_filterMap]
      refine ⟨kindT x, ?_, hfirst x (h2 x h)⟩
      have := hk x (h2 x h)
      have e : kindT x = 1 ∨ kindT x = 2 ∨ kindT x = 3 ∨ kindT x = 4 ∨ kindT x = 5 ∨ kindT x = 6 := by omega
      simp [tagsL]
      exact e
    rw [e]
    exact member_made ht
  · unfold alikeV
    rw [List.all_eq_true]
    intro x hx
    rw [hfirst x hx]
    exact same_self (is_norm (hn x hx).1)
  · intro hh
    rw [List.any_eq_true] at hh
    obtain ⟨x, hx, e⟩ := hh
    have := hk x hx
    have e2 : kindT x = 0 := by simpa using e
    omega
theorem recGo_permP : ∀ {ns : List (List UInt8)} {ks : List Ty} {acc l : List (List UInt8 × Ty)}, ns.length = ks.length -> recGo ns ks acc = some l -> l.Perm (acc ++ ns.zip ks)
  | [], [], acc, l, _, h => by
    rw [recGo] at h
    · injection h with h
      subst h
      simp
    · simp
  | [], _ :: _, _, _, hl, _ => by simp at hl
  | _ :: _, [], _, _, hl, _ => by simp at hl
  | s :: ns, x :: ks, acc, l, hl, h => by
    rw [recGo] at h
    by_cases hn : nameV s = true
    · rw [if_pos hn, Option.bind_eq_some_iff] at h
      obtain ⟨m, hm, h⟩ := h
      have h1 := recGo_permP (by simpa using hl) h
      refine h1.trans (((insP_perm hm).append_right _).trans ?_)
      rw [List.zip_cons_cons]
      exact List.perm_middle.symm
    · rw [if_neg hn] at h; cases h
theorem recGo_none : ∀ {ns : List (List UInt8)} {ks : List Ty} {acc : List (List UInt8 × Ty)}, ns.length = ks.length -> recGo ns ks acc = none -> (∃ s ∈ ns, nameV s = false) ∨ ¬ (acc.map (·.1) ++ ns).Nodup
  | [], [], acc, _, h => by
    rw [recGo] at h
    · cases h
    · simp
  | [], _ :: _, _, hl, _ => by simp at hl
  | _ :: _, [], _, hl, _ => by simp at hl
  | s :: ns, x :: ks, acc, hl, h => by
    rw [recGo] at h
    by_cases hn : nameV s = true
    · rw [if_pos hn] at h
      cases hi : insP s x acc with
      | none =>
        obtain ⟨y, hy⟩ := insP_none hi
        refine .inr fun hd => ?_
        rw [List.nodup_append] at hd
        exact hd.2.2 s (List.mem_map.2 ⟨(s, y), hy, rfl⟩) s (List.mem_cons_self ..) rfl
      | some m =>
        rw [hi] at h
        rcases recGo_none (by simpa using hl) h with ⟨t, ht, he⟩ | hd
        · exact .inl ⟨t, List.mem_cons_of_mem _ ht, he⟩
        · refine .inr fun hd2 => hd ?_
          have hp := ((insP_perm hi).map (·.1)).append_right ns
          refine (hp.nodup_iff).2 ?_
          have hq : ((s :: acc.map (·.1)) ++ ns).Perm (acc.map (·.1) ++ s :: ns) := List.perm_middle.symm
          exact (hq.nodup_iff).2 hd2
    · exact .inl ⟨s, List.mem_cons_self .., by simpa using hn⟩
theorem rise_nodup {l : List (List UInt8 × Ty)} (h : RiseP l) : (l.map (·.1)).Nodup := by
  unfold List.Nodup
  rw [List.pairwise_map]
  refine List.Pairwise.imp (fun {a b} hab e => ?_) h
  rw [e, ltB_irr] at hab
  cases hab
/-- Fields in another order make the same record. -/
theorem record_turn {ns ns' : List (List UInt8)} {ks ks' : List Ty} (hl : ns.length = ks.length) (hl' : ns'.length = ks'.length) (hp : (ns.zip ks).Perm (ns'.zip ks')) : recordV ns ks = recordV ns' ks' := by
  have hpn : ns.Perm ns' := by
    have := hp.map (·.1)
    rwa [List.map_fst_zip (by omega), List.map_fst_zip (by omega)] at this
  have hlen := hpn.length_eq
  unfold recordV
  by_cases h16 : 16 < ns.length
  · rw [if_pos (.inr h16), if_pos (.inr (by omega))]
  rw [if_neg (by omega), if_neg (by omega)]
  have key : ∀ (ns ns' : List (List UInt8)) (ks ks' : List Ty), ns.length = ks.length -> ns'.length = ks'.length -> (ns.zip ks).Perm (ns'.zip ks') -> ns.Perm ns' -> ∀ l, recGo ns ks [] = some l -> recGo ns' ks' [] = some l := by
    intro ns ns' ks ks' hl hl' hp hpn l h
    obtain ⟨g1, g2, g3, _⟩ := recGo_some hl List.Pairwise.nil h
    have gp := recGo_permP hl h
    have hnd : ns.Nodup := by
      have h1 := rise_nodup g1
      have h2 := (gp.map (·.1)).nodup_iff.1 h1
      rwa [List.nil_append, List.map_fst_zip (by omega)] at h2
    cases h' : recGo ns' ks' [] with
    | none =>
      rcases recGo_none hl' h' with ⟨s, hs, he⟩ | hd
      · have := g3 s (hpn.mem_iff.2 hs)
        rw [he] at this
        cases this
      · exact absurd (hpn.nodup_iff.1 hnd) (by simpa using hd)
    | some l' =>
      obtain ⟨g1', g2', _⟩ := recGo_some hl' List.Pairwise.nil h'
      have e : l = l' := by
        refine rising_ext (R := fun (a b : List UInt8 × Ty) => ltB a.1 b.1 = true) (fun a h => by rw [ltB_irr] at h; cases h) (fun a b h1 h2 => ltB_asym h1 h2) l l' g1 g1' fun p => ?_
        rw [g2, g2']
        exact ⟨fun h => h.elim (fun h => by cases h) fun h => .inr (hp.mem_iff.1 h), fun h => h.elim (fun h => by cases h) fun h => .inr (hp.mem_iff.2 h)⟩
      rw [e]
  cases h : recGo ns ks [] with
  | some l => rw [key ns ns' ks ks' hl hl' hp hpn l h]
  | none =>
    cases h' : recGo ns' ks' [] with
    | none => rfl
    | some l' =>
      have := key ns' ns ks' ks hl' hl hp.symm hpn.symm l' h'
      rw [h] at this
      cases this
/-- What stands within a normal type is normal. -/
theorem norm_within {n : Nat} {t x : Ty} (h : NormT (n + 1) t) (hx : x ∈ kidsT t) : NormT n x := by
  rcases h with ⟨k, k0, k4, rfl⟩ | ⟨ns, ks, rfl, _, _, _, _, h6⟩ | ⟨a, b, rfl, h2, h3⟩ | ⟨ks, rfl, _, h3, _⟩
  · rw [kids_mk] at hx; cases hx
  · exact h6 x hx
  · rw [kids_mk] at hx
    rcases List.mem_cons.1 hx with rfl | hx
    · exact h2
    · rw [List.mem_singleton.1 hx]
      exact h3
  · exact (h3 x hx).1
/-- As many as they are, but no more than so many: a kid more. -/
theorem cap_step {a s most : Nat} (h : min a most < most) : min a most + min s (most - min a most) = min (a + s) most := by omega
theorem cap_full {a s most : Nat} (h : ¬ min a most < most) : min (a + s) most = min a most := by omega
end Go.Proofs.YtlhmofphpfdjlaaGreatDoor
/- A type that lies in memory: its tree, and that it stays; of whatever program. -/
namespace Go.Proofs.YtlhmofphpfdjlaaGreatDoor
open Go.Proofs.Tryz
open Go.RowKit
/-- How a program lays types out: T the type, N its names, K the types within it, I and S numbers and strings. -/
structure TyRow (P : Program) (T N K I S : TypeId) : Prop where
  uT : ∃ f0 f1 f2 f3 : Field, P.underlying T = some (.struct #[f0, f1, f2, f3]) /\ (f0.type = I /\ f0.offset = 0) /\ (f1.type = S /\ f1.offset = 1) /\ (f2.type = N /\ f2.offset = 2) /\ (f3.type = K /\ f3.offset = 3)
  uI : P.underlying I = some (.int .i64)
  uS : P.underlying S = some .string
  uN : P.underlying N = some (.slice S)
  uK : P.underlying K = some (.slice T)
  cT : P.cellsOf T = 4
  cI : P.cellsOf I = 1
  cS : P.cellsOf S = 1
  cN : P.cellsOf N = 1
  cK : P.cellsOf K = 1
  bT : 1 <= P.bytesOf T
  bS : 1 <= P.bytesOf S
/-- These strings lie there. -/
def NamesAt (w : World) (a : Option Addr) (ns : List (List UInt8)) : Prop :=
  ns = [] ∨ ∃ b o, a = some ⟨b, o, none⟩ /\ b < w.heap.size /\ ∀ i (h : i < ns.length), w.cell? ⟨b, o + i, none⟩ = some (.string ⟨ns[i].toArray⟩)
/-- The block is a row of cells that bears no mark. -/
def CleanB (w : World) (b : Nat) : Prop := ∃ cs t, w.heap[b]? = some (.cells cs t (0, 0))
/-- Trees that lie in a row; u: and the row bears no mark. -/
def RowOf (w : World) (u : Bool) (T : Value -> Ty -> Prop) (ka : Option Addr) (ks : List Ty) : Prop :=
  ks = [] ∨ ∃ b o, ka = some ⟨b, o, none⟩ /\ b < w.heap.size /\ w.frozen? ⟨b, o, none⟩ = false /\ (u = true -> CleanB w b) /\ ∀ i (h : i < ks.length), ∃ c0 c1 c2 c3, w.cell? ⟨b, o + i * 4, none⟩ = some c0 /\ w.cell? ⟨b, o + i * 4 + 1, none⟩ = some c1 /\
      w.cell? ⟨b, o + i * 4 + 2, none⟩ = some c2 /\ w.cell? ⟨b, o + i * 4 + 3, none⟩ = some c3 /\ T (.agg #[c0, c1, c2, c3]) ks[i]
/-- The value v is a type, at most n deep, whose tree is D. -/
def TyAt (w : World) (u : Bool) : Nat -> Value -> Ty -> Prop
  | 0, _, _ => False
  | n + 1, v, D => ∃ (k : Int) (nm : ByteArray) (na : Option Addr) (nc : Nat) (ka : Option Addr) (kc : Nat) (ns : List (List UInt8)) (ks : List Ty),
    v = .agg #[.int .i64 k, .string nm, .slice na ns.length nc, .slice ka ks.length kc] /\ D = mkT k nm.data.toList ns ks /\ (Lit.int .i64 k).wf = true /\ nm.size <= reachBytes /\ (∀ s ∈ ns, s.length <= reachBytes) /\
    (ns.length <= nc /\ ns.length <= reachBytes) /\ (ks.length <= kc /\ ks.length <= reachBytes) /\ NamesAt w na ns /\ RowOf w u (fun v D => TyAt w u n v D) ka ks
abbrev KidsAt (w : World) (u : Bool) (n : Nat) (ka : Option Addr) (ks : List Ty) : Prop := RowOf w u (fun v D => TyAt w u n v D) ka ks
theorem names_below {w w' : World} {a : Option Addr} {ns : List (List UInt8)} (h : NamesAt w a ns) (hb : Below w.heap.size w w') : NamesAt w' a ns := by
  rcases h with h | ⟨b, o, ha, hlt, hc⟩
  · exact .inl h
  · exact .inr ⟨b, o, ha, Nat.lt_of_lt_of_le hlt hb.size, fun i hi => (hb.cell (p := ⟨b, o + i, none⟩) hlt).trans (hc i hi)⟩
theorem clean_below {w w' : World} {b : Nat} (h : CleanB w b) (hb : Below w.heap.size w w') : CleanB w' b := by
  obtain ⟨cs, t, h⟩ := h
  exact ⟨cs, t, (hb.block b (lt_of_block h)).trans h⟩
theorem row_below {w w' : World} {u : Bool} {T T' : Value -> Ty -> Prop} {ka : Option Addr} {ks : List Ty} (hT : ∀ v D, D ∈ ks -> T v D -> T' v D) (h : RowOf w u T ka ks) (hb : Below w.heap.size w w') : RowOf w' u T' ka ks := by
  rcases h with h9 | ⟨b, o, ha, hlt, hf, hcl, hc⟩
  · exact .inl h9
  · refine .inr ⟨b, o, ha, Nat.lt_of_lt_of_le hlt hb.size, (hb.frozen (p := ⟨b, o, none⟩) hlt).trans hf, fun hu => clean_below (hcl hu) hb, fun i hi => ?_⟩
    obtain ⟨c0, c1, c2, c3, e0, e1, e2, e3, ht⟩ := hc i hi
    exact ⟨c0, c1, c2, c3, (hb.cell (p := ⟨b, o + i * 4, none⟩) hlt).trans e0, (hb.cell (p := ⟨b, o + i * 4 + 1, none⟩) hlt).trans e1, (hb.cell (p := ⟨b, o + i * 4 + 2, none⟩) hlt).trans e2,
      (hb.cell (p := ⟨b, o + i * 4 + 3, none⟩) hlt).trans e3, hT _ _ (List.getElem_mem hi) ht⟩
theorem ty_below {w w' : World} {u : Bool} {n : Nat} {v : Value} {D : Ty} (h : TyAt w u n v D) (hb : Below w.heap.size w w') : TyAt w' u n v D := by
  induction n generalizing v D with
  | zero => exact h.elim
  | succ n ih =>
    obtain ⟨k, nm, na, nc, ka, kc, ns, ks, h1, h2, h3, h4, h5, h6, h7, h8, h9⟩ := h
    exact ⟨k, nm, na, nc, ka, kc, ns, ks, h1, h2, h3, h4, h5, h6, h7, names_below h8 hb, row_below (fun _ _ _ h => ih h) h9 hb⟩
theorem kids_below {w w' : World} {u : Bool} {n : Nat} {ka : Option Addr} {ks : List Ty} (h : KidsAt w u n ka ks) (hb : Below w.heap.size w w') : KidsAt w' u n ka ks := row_below (fun _ _ _ h => ty_below h hb) h hb
theorem ty_mono {w : World} {u : Bool} {n m : Nat} {v : Value} {D : Ty} (h : TyAt w u n v D) (hm : n <= m) : TyAt w u m v D := by
  induction n generalizing m v D with
  | zero => exact h.elim
  | succ n ih =>
    obtain ⟨m, rfl⟩ : ∃ p, m = p + 1 := ⟨m - 1, by omega⟩
    obtain ⟨k, nm, na, nc, ka, kc, ns, ks, h1, h2, h3, h4, h5, h6, h7, h8, h9⟩ := h
    exact ⟨k, nm, na, nc, ka, kc, ns, ks, h1, h2, h3, h4, h5, h6, h7, h8, row_below (fun _ _ _ h => ih h (by omega)) h9 (Below.refl _ _)⟩
theorem kids_mono {w : World} {u : Bool} {n m : Nat} {ka : Option Addr} {ks : List Ty} (h : KidsAt w u n ka ks) (hm : n <= m) : KidsAt w u m ka ks := row_below (fun _ _ _ h => ty_mono h hm) h (Below.refl _ _)
/-- Of whatever rows. -/
theorem ty_forget {w : World} {u : Bool} {n : Nat} {v : Value} {D : Ty} (h : TyAt w u n v D) : TyAt w false n v D := by
  induction n generalizing v D with
  | zero => exact h.elim
  | succ n ih =>
    obtain ⟨k, nm, na, nc, ka, kc, ns, ks, h1, h2, h3, h4, h5, h6, h7, h8, h9⟩ := h
    refine ⟨k, nm, na, nc, ka, kc, ns, ks, h1, h2, h3, h4, h5, h6, h7, h8, ?_⟩
    rcases h9 with h9 | ⟨b, o, ha, hlt, hf, _, hc⟩
    · exact .inl h9
    · refine .inr ⟨b, o, ha, hlt, hf, fun h => (by cases h), fun i hi => ?_⟩
      obtain ⟨c0, c1, c2, c3, e0, e1, e2, e3, ht⟩ := hc i hi
      exact ⟨c0, c1, c2, c3, e0, e1, e2, e3, ih ht⟩
theorem ty_is {w : World} {u : Bool} {n : Nat} {v : Value} {D : Ty} (h : TyAt w u n v D) : IsT n D := by
  induction n generalizing v D with
  | zero => exact h.elim
  | succ n ih =>
    obtain ⟨k, nm, na, nc, ka, kc, ns, ks, h1, rfl, h3, h4, h5, h6, h7, h8, h9⟩ := h
    refine is_mk fun x hx => ?_
    rcases h9 with rfl | ⟨b, o, ha, hlt, _, _, hc⟩
    · cases hx
    · obtain ⟨i, hi, rfl⟩ := List.mem_iff_getElem.1 hx
      obtain ⟨_, _, _, _, _, _, _, _, ht⟩ := hc i hi
      exact ih ht
theorem names_det {w : World} {a : Option Addr} {ns ns' : List (List UInt8)} (h : NamesAt w a ns) (h' : NamesAt w a ns') (hl : ns.length = ns'.length) : ns = ns' := by
  rcases h with rfl | ⟨b, o, rfl, _, hc⟩
  · exact (List.length_eq_zero_iff.1 hl.symm).symm
  · rcases h' with rfl | ⟨b', o', ha, _, hc'⟩
    · exact List.length_eq_zero_iff.1 hl
    · injection ha with ha
      injection ha with hb ho
      subst hb ho
      refine List.ext_getElem hl fun i h1 h2 => ?_
      have e := (hc i h1).symm.trans (hc' i h2)
      injection e with e
      injection e with e
      have e2 := congrArg (fun b : ByteArray => b.data.toList) e
      simpa using e2
/-- One value is one tree. -/
theorem ty_det {w : World} {u u' : Bool} {n m : Nat} {v : Value} {D D' : Ty} (h : TyAt w u n v D) (h' : TyAt w u' m v D') : D = D' := by
  induction n generalizing m v D D' with
  | zero => exact h.elim
  | succ n ih =>
    cases m with
    | zero => exact h'.elim
    | succ m =>
      obtain ⟨k, nm, na, nc, ka, kc, ns, ks, h1, rfl, _, _, _, _, _, h8, h9⟩ := h
      obtain ⟨k', nm', na', nc', ka', kc', ns', ks', h1', rfl, _, _, _, _, _, h8', h9'⟩ := h'
      rw [h1] at h1'
      injection h1' with e
      injection e with e
      injection e with e0 e
      injection e with e1 e
      injection e with e2 e
      injection e with e3 _
      injection e0 with _ e0
      injection e1 with e1
      injection e2 with e2 e2l e2c
      injection e3 with e3 e3l e3c
      subst e0 e1 e2 e3
      obtain rfl := names_det h8 h8' e2l
      have : ks = ks' := by
        rcases h9 with rfl | ⟨b, o, rfl, _, _, _, hc⟩
        · exact (List.length_eq_zero_iff.1 e3l.symm).symm
        · rcases h9' with rfl | ⟨b', o', ha, _, _, _, hc'⟩
          · exact List.length_eq_zero_iff.1 e3l
          · injection ha with ha
            injection ha with hb ho
            subst hb ho
            refine List.ext_getElem e3l fun i h1 h2 => ?_
            obtain ⟨c0, c1, c2, c3, q0, q1, q2, q3, ht⟩ := hc i h1
            obtain ⟨d0, d1, d2, d3, p0, p1, p2, p3, ht'⟩ := hc' i h2
            obtain rfl := Option.some.inj (q0.symm.trans p0)
            obtain rfl := Option.some.inj (q1.symm.trans p1)
            obtain rfl := Option.some.inj (q2.symm.trans p2)
            obtain rfl := Option.some.inj (q3.symm.trans p3)
            exact ih ht ht'
      rw [this]
theorem kids_det {w : World} {u u' : Bool} {n m : Nat} {ka : Option Addr} {ks ks' : List Ty} (h : KidsAt w u n ka ks) (h' : KidsAt w u' m ka ks') (hl : ks.length = ks'.length) : ks = ks' := by
  rcases h with rfl | ⟨b, o, rfl, _, _, _, hc⟩
  · exact (List.length_eq_zero_iff.1 hl.symm).symm
  · rcases h' with rfl | ⟨b', o', ha, _, _, _, hc'⟩
    · exact List.length_eq_zero_iff.1 hl
    · injection ha with ha
      injection ha with hb ho
      subst hb ho
      refine List.ext_getElem hl fun i h1 h2 => ?_
      obtain ⟨c0, c1, c2, c3, q0, q1, q2, q3, ht⟩ := hc i h1
      obtain ⟨d0, d1, d2, d3, p0, p1, p2, p3, ht'⟩ := hc' i h2
      obtain rfl := Option.some.inj (q0.symm.trans p0)
      obtain rfl := Option.some.inj (q1.symm.trans p1)
      obtain rfl := Option.some.inj (q2.symm.trans p2)
      obtain rfl := Option.some.inj (q3.symm.trans p3)
      exact ty_det ht ht'
/-- The kid at a place: its cells. -/
theorem kid_at {w : World} {u : Bool} {n : Nat} {ka : Option Addr} {ks : List Ty} (h : KidsAt w u n ka ks) {i : Nat} (hi : i < ks.length) :
    ∃ b o k nm na nl nc la ll lc, ka = some ⟨b, o, none⟩ /\ b < w.heap.size /\ w.cell? ⟨b, o + i * 4, none⟩ = some (.int .i64 k) /\ w.cell? ⟨b, o + i * 4 + 1, none⟩ = some (.string nm) /\ w.cell? ⟨b, o + i * 4 + 2, none⟩ = some (.slice na nl nc) /\
      w.cell? ⟨b, o + i * 4 + 3, none⟩ = some (.slice la ll lc) /\ TyAt w u n (.agg #[.int .i64 k, .string nm, .slice na nl nc, .slice la ll lc]) ks[i] := by
  rcases h with rfl | ⟨b, o, rfl, hlt, _, _, hc⟩
  · cases hi
  · obtain ⟨c0, c1, c2, c3, q0, q1, q2, q3, ht⟩ := hc i hi
    cases n with
    | zero => exact ht.elim
    | succ n =>
      have ht' := ht
      obtain ⟨k, nm, na, nc, ka, kc, ns, ks', h1, _⟩ := ht
      injection h1 with e
      injection e with e
      injection e with e0 e
      injection e with e1 e
      injection e with e2 e
      injection e with e3 _
      subst e0 e1 e2 e3
      exact ⟨b, o, k, nm, na, ns.length, nc, ka, ks'.length, kc, rfl, hlt, q0, q1, q2, q3, ht'⟩
theorem weights_all {H : Type} {P : Program} {e : TypeId} : ∀ {ds : List (DataW H)} {d : DataW H}, d ∈ ds -> ∀ m ∈ d.weights P e, m ∈ DataW.weightsAll P e ds
  | [], _, h, _, _ => by cases h
  | d0 :: ds, d, h, m, hm => by
    rw [DataW.weightsAll, List.mem_append]
    rcases List.mem_cons.1 h with rfl | h
    · exact .inl hm
    · exact .inr (weights_all h m hm)
/-- Strings that came in. -/
theorem names_of_trod {H : Type} {enc : TypeId × Value -> H} {P : Program} {w : World} {T N K I S : TypeId} (R : TyRow P T N K I S) {fuel : Nat} {cs : List Value} {x : DataW H × List MemPlace}
    (h : DataW.trod enc P w 0 (fun _ => true) true fuel N cs = some x) (hw : ∀ m ∈ x.1.weights P N, m <= reachBytes) :
    ∃ na nc ns, cs = [.slice na (List.length ns) nc] /\ NamesAt w na ns /\ (∀ s ∈ ns, s.length <= reachBytes) /\ ns.length <= nc /\ nc <= reachBytes := by
  rcases DataW.trod_slice R.uN h with ⟨rfl, rfl⟩ | ⟨a, len, cap, elems, rest, n, _, rfl, rfl, _, hl, _, hlen, hel, hsp, _⟩
  · exact ⟨none, 0, [], rfl, .inl rfl, by simp, Nat.le_refl _, Nat.zero_le _⟩
  · have hrl := (hsp rfl).1
    have hstr : ∀ i, i < len -> ∃ s : ByteArray, w.cell? (a.add i) = some (.string s) /\ s.size <= reachBytes := by
      intro i hi
      have h1 := hel i hi
      have h2 : i < elems.length := by omega
      rw [List.getElem?_eq_getElem h2, Option.bind_eq_some_iff] at h1
      obtain ⟨cs', g1, g2⟩ := h1
      obtain ⟨s, rfl, e, _⟩ := DataW.trod_string R.uS g2
      obtain ⟨_, _, g3⟩ := World.cells?_some g1
      have g4 := g3 0 (by rw [R.cS]; omega)
      rw [R.cS, Nat.mul_one] at g4
      refine ⟨s, ?_, ?_⟩
      · have hz : (a.add i).add 0 = a.add i := by simp [Addr.add]
        rw [hz] at g4
        simpa using g4
      · have hm : s.data.toList.length ∈ DataW.weights P N (DataW.slice (elems.map (·.1)) (rest.map (·.1))) := by
          rw [DataW.weights, R.uN]
          refine List.mem_cons_of_mem _ (List.mem_append_left _ (weights_all (d := elems[i].1) (List.mem_map.2 ⟨_, List.getElem_mem h2, rfl⟩) _ ?_))
          rw [e, DataW.weights]
          exact List.mem_singleton.2 rfl
        have := hw _ hm
        rwa [byteArray_len] at this
    have hcap : cap <= reachBytes := by
      have h1 : (elems.length + rest.length) * P.bytesOf S <= reachBytes := hw _ (by
        rw [DataW.weights, R.uN]
        simp)
      have h2 := Nat.le_mul_of_pos_right (elems.length + rest.length) R.bS
      omega
    by_cases h0 : len = 0
    · subst h0
      exact ⟨some a, cap, [], rfl, .inl rfl, by simp, Nat.zero_le _, hcap⟩
    · obtain ⟨b, o, spot⟩ := a
      obtain ⟨s0, hs0, _⟩ := hstr 0 (by omega)
      have hspot : spot = none := by simpa [Addr.add] using World.cell?_spot hs0
      subst hspot
      have hadd : ∀ i, (⟨b, o, none⟩ : Addr).add i = ⟨b, o + i, none⟩ := fun i => by unfold Addr.add; split <;> simp_all
      have hg : ∀ i, ∃ s : ByteArray, i < len -> w.cell? ⟨b, o + i, none⟩ = some (.string s) /\ s.size <= reachBytes := fun i => by
        by_cases hi : i < len
        · obtain ⟨s, h1, h2⟩ := hstr i hi
          rw [hadd] at h1
          exact ⟨s, fun _ => ⟨h1, h2⟩⟩
        · exact ⟨ByteArray.empty, fun h => absurd h hi⟩
      obtain ⟨f, hf⟩ := Classical.axiomOfChoice hg
      refine ⟨some ⟨b, o, none⟩, cap, (List.range len).map fun i => (f i).data.toList, by simp, .inr ⟨b, o, rfl, World.block_lt_of_cell? w _ (hf 0 (by omega)).1, ?_⟩, ?_, by simpa using hl, hcap⟩
      · intro i hi
        have hi' : i < len := by simpa using hi
        rw [(hf i hi').1]
        simp
      · intro s hs
        obtain ⟨i, hi, rfl⟩ := List.mem_map.1 hs
        rw [byteArray_len]
        exact (hf i (List.mem_range.1 hi)).2
end Go.Proofs.YtlhmofphpfdjlaaGreatDoor
/- A type that came in as an argument, as a type that lies in memory; of whatever program. -/
namespace Go.Proofs.YtlhmofphpfdjlaaGreatDoor
open Go.Proofs.Tryz
open Go.RowKit
theorem one_cell {cs : List Value} {o : Nat} (h : cs.length = 4) (ho : o < 4) : ∃ c, (cs.drop o).take 1 = [c] /\ cs[o]? = some c := by
  match cs, h, o, ho with
  | [a, b, c, d], _, 0, _ => exact ⟨a, rfl, rfl⟩
  | [a, b, c, d], _, 1, _ => exact ⟨b, rfl, rfl⟩
  | [a, b, c, d], _, 2, _ => exact ⟨c, rfl, rfl⟩
  | [a, b, c, d], _, 3, _ => exact ⟨d, rfl, rfl⟩
theorem ty_of_trod {H : Type} {enc : TypeId × Value -> H} {P : Program} {w : World} {T N K I S : TypeId} (R : TyRow P T N K I S) (fuel : Nat) : ∀ {cs : List Value} {x : DataW H × List MemPlace},
    DataW.trod enc P w 0 (fun _ => true) true fuel T cs = some x -> (∀ m ∈ x.1.weights P T, m <= reachBytes) -> (∀ b off, MemPlace.cell b off ∈ x.2 -> w.frozen? ⟨b, off, none⟩ = false) -> ∃ D, TyAt w false fuel (.agg cs.toArray) D := by
  induction fuel using Nat.strongRecOn with
  | ind fuel ih =>
    intro cs x h hw hfz
    obtain ⟨f0, f1, f2, f3, uT, ⟨t0, o0⟩, ⟨t1, o1⟩, ⟨t2, o2⟩, ⟨t3, o3⟩⟩ := R.uT
    obtain ⟨xs, n, rfl, rfl, hl, hxl, hf⟩ := DataW.trod_struct uT h
    rw [R.cT] at hl
    have hxl4 : xs.length = 4 := hxl
    obtain ⟨y0, y1, y2, y3, rfl⟩ : ∃ y0 y1 y2 y3, xs = [y0, y1, y2, y3] := by
      match xs, hxl4 with
      | [a, b, c, d], _ => exact ⟨a, b, c, d, rfl⟩
    have g0 := hf 0 f0 rfl
    have g1 := hf 1 f1 rfl
    have g2 := hf 2 f2 rfl
    have g3 := hf 3 f3 rfl
    rw [t0, o0, R.cI] at g0
    rw [t1, o1, R.cS] at g1
    rw [t2, o2, R.cN] at g2
    rw [t3, o3, R.cK] at g3
    obtain ⟨a0, e0, q0⟩ := one_cell (o := 0) hl (by omega)
    obtain ⟨a1, e1, q1⟩ := one_cell (o := 1) hl (by omega)
    obtain ⟨a2, e2, q2⟩ := one_cell (o := 2) hl (by omega)
    obtain ⟨a3, e3, q3⟩ := one_cell (o := 3) hl (by omega)
    have hcs : cs = [a0, a1, a2, a3] := by
      match cs, hl, q0, q1, q2, q3 with
      | [_, _, _, _], _, q0, q1, q2, q3 =>
        injection q0 with q0
        injection q1 with q1
        injection q2 with q2
        injection q3 with q3
        rw [q0, q1, q2, q3]
    rw [e0] at g0
    rw [e1] at g1
    rw [e2] at g2
    rw [e3] at g3
    have hwe : ∀ (j : Nat) (t : TypeId) (y : DataW H × List MemPlace), [I, S, N, K][j]? = some t -> [y0, y1, y2, y3][j]? = some y -> ∀ m ∈ y.1.weights P t, m <= reachBytes := by
      intro j t y hj hy m hm
      refine hw m ?_
      rw [DataW.weights, uT]
      refine DataW.weights_mem_each (j := j) (t := t) (d := y.1) ?_ ?_ m hm
      · show [f0.type, f1.type, f2.type, f3.type][j]? = some t
        rw [t0, t1, t2, t3]
        exact hj
      · rw [List.getElem?_map, hy]
        rfl
    obtain ⟨k, hk, ek, hwf⟩ := DataW.trod_int R.uI g0
    obtain ⟨s, hs, es, _⟩ := DataW.trod_string R.uS g1
    obtain ⟨na, nc, ns, hn, hna, hns, hn1, hn2⟩ := names_of_trod R g2 (hwe 2 N y2 rfl rfl)
    injection hk with hk _
    injection hs with hs _
    injection hn with hn _
    subst hk hs hn
    have hsl : s.size <= reachBytes := by
      have := hwe 1 S y1 rfl rfl s.data.toList.length (by
        have e : y1 = (DataW.lit (Lit.string s.data.toList), []) := es
        rw [e, DataW.weights]
        exact List.mem_singleton.2 rfl)
      rwa [byteArray_len] at this
    rcases DataW.trod_slice R.uK g3 with ⟨hk0, _⟩ | ⟨a, len, cap, elems, rest, m, rfl, hk0, hy, _, hlc, _, hlen, hel, hsp, _⟩
    · injection hk0 with hk0 _
      subst hk0 hcs
      exact ⟨_, k, s, na, nc, none, 0, ns, [], rfl, rfl, hwf, hsl, hns, ⟨hn1, Nat.le_trans hn1 hn2⟩, ⟨Nat.le_refl _, Nat.zero_le _⟩, hna, .inl rfl⟩
    · injection hk0 with hk0 _
      subst hk0 hcs
      have hwk := hwe 3 K y3 rfl rfl
      have hfk : ∀ b off, MemPlace.cell b off ∈ y3.2 -> w.frozen? ⟨b, off, none⟩ = false := fun b off hm => hfz b off (by simp [hm])
      have hy32 : y3.2 = MemPlace.row a ((elems.length + rest.length) * P.cellsOf T) ++ (elems ++ rest).flatMap (·.2) := by rw [hy]
      rw [hy32, R.cT] at hfk
      have hy3 : y3.1 = DataW.slice (elems.map (·.1)) (rest.map (·.1)) := by rw [hy]
      rw [hy3] at hwk
      have hrl := (hsp rfl).1
      have hcap : cap <= reachBytes := by
        have h1 : (elems.length + rest.length) * P.bytesOf T <= reachBytes := hwk _ (by
          rw [DataW.weights, R.uK]
          simp)
        have h2 := Nat.le_mul_of_pos_right (elems.length + rest.length) R.bT
        omega
      have hkid : ∀ i, i < len -> ∃ c0 c1 c2 c3 D, w.cell? (a.add (i * 4)) = some c0 /\ w.cell? ((a.add (i * 4)).add 1) = some c1 /\ w.cell? ((a.add (i * 4)).add 2) = some c2 /\ w.cell? ((a.add (i * 4)).add 3) = some c3 /\ TyAt w false m (.agg #[c0, c1, c2, c3]) D := by
        intro i hi
        have h1 := hel i hi
        have h2 : i < elems.length := by omega
        rw [List.getElem?_eq_getElem h2, Option.bind_eq_some_iff, R.cT] at h1
        obtain ⟨cs', p1, p2⟩ := h1
        obtain ⟨_, hl4, p3⟩ := World.cells?_some p1
        obtain ⟨D, hD⟩ := ih m (by omega) p2 (fun mm hm => hwk mm (by
          rw [DataW.weights, R.uK]
          exact List.mem_cons_of_mem _ (List.mem_append_left _ (weights_all (d := elems[i].1) (List.mem_map.2 ⟨_, List.getElem_mem h2, rfl⟩) _ hm))))
          (fun b off hm => hfk b off (List.mem_append_right _ (List.mem_flatMap.2 ⟨elems[i], List.mem_append_left _ (List.getElem_mem h2), hm⟩)))
        match cs', hl4, p3, hD with
        | [c0, c1, c2, c3], _, p3, hD =>
          have z0 := p3 0 (by omega)
          have hz : (a.add (i * 4)).add 0 = a.add (i * 4) := by simp [Addr.add]
          rw [hz] at z0
          exact ⟨c0, c1, c2, c3, D, z0, p3 1 (by omega), p3 2 (by omega), p3 3 (by omega), hD⟩
      by_cases h0 : len = 0
      · subst h0
        exact ⟨_, k, s, na, nc, some a, cap, ns, [], rfl, rfl, hwf, hsl, hns, ⟨hn1, Nat.le_trans hn1 hn2⟩, ⟨Nat.zero_le _, Nat.zero_le _⟩, hna, .inl rfl⟩
      · obtain ⟨b, o, spot⟩ := a
        obtain ⟨c0, _, _, _, _, hc0, _⟩ := hkid 0 (by omega)
        have hspot : spot = none := by simpa [Addr.add] using World.cell?_spot hc0
        subst hspot
        have hadd : ∀ i, (⟨b, o, none⟩ : Addr).add i = ⟨b, o + i, none⟩ := fun i => by unfold Addr.add; split <;> simp_all
        have hadd2 : ∀ i j, (⟨b, o + i, none⟩ : Addr).add j = ⟨b, o + i + j, none⟩ := fun i j => by unfold Addr.add; split <;> simp_all
        have hg : ∀ i, ∃ D, i < len -> ∃ c0 c1 c2 c3, w.cell? ⟨b, o + i * 4, none⟩ = some c0 /\ w.cell? ⟨b, o + i * 4 + 1, none⟩ = some c1 /\ w.cell? ⟨b, o + i * 4 + 2, none⟩ = some c2 /\ w.cell? ⟨b, o + i * 4 + 3, none⟩ = some c3 /\ TyAt w false m (.agg #[c0, c1, c2, c3]) D := fun i => by
          by_cases hi : i < len
          · obtain ⟨c0, c1, c2, c3, D, h0, h1, h2, h3, hD⟩ := hkid i hi
            rw [hadd] at h0
            rw [hadd, hadd2] at h1 h2 h3
            exact ⟨D, fun _ => ⟨c0, c1, c2, c3, h0, h1, h2, h3, hD⟩⟩
          · exact ⟨.nil, fun h => absurd h hi⟩
        obtain ⟨f, hf⟩ := Classical.axiomOfChoice hg
        have hc0' : w.cell? ⟨b, o, none⟩ = some c0 := by simpa [Addr.add] using hc0
        refine ⟨_, k, s, na, nc, some ⟨b, o, none⟩, cap, ns, (List.range len).map f, by simp, rfl, hwf, hsl, hns, ⟨hn1, Nat.le_trans hn1 hn2⟩, ⟨by simpa using hlc, Nat.le_trans (by simpa using hlc) hcap⟩, hna, .inr ⟨b, o, rfl, World.block_lt_of_cell? w _ hc0', hfk b o (List.mem_append_left _ (List.mem_map.2 ⟨0, List.mem_range.2 (by omega), rfl⟩)), fun h => (by cases h), ?_⟩⟩
        intro i hi
        have hi' : i < len := by simpa using hi
        obtain ⟨c0, c1, c2, c3, h0, h1, h2, h3, hD⟩ := hf i hi'
        refine ⟨c0, c1, c2, c3, h0, h1, h2, h3, ?_⟩
        rw [List.getElem_map, List.getElem_range]
        exact ty_mono hD (by omega)
end Go.Proofs.YtlhmofphpfdjlaaGreatDoor
/- How this program lays types out; small facts of memory that the contracts of stage 3 share. -/
namespace Go.Proofs.YtlhmofphpfdjlaaGreatDoor
open Go.Proofs.Tryz
open Go.RowKit
theorem tyRow : TyRow prog 44 24 23 3 9 where
  uT := ⟨_, _, _, _, underlying44, ⟨rfl, rfl⟩, ⟨rfl, rfl⟩, ⟨rfl, rfl⟩, ⟨rfl, rfl⟩⟩
  uI := underlying3
  uS := underlying9
  uN := underlying24
  uK := underlying23
  cT := by kernel_rfl
  cI := by kernel_rfl
  cS := by kernel_rfl
  cN := by kernel_rfl
  cK := by kernel_rfl
  bT := of_decide_eq_true (by kernel_rfl)
  bS := of_decide_eq_true (by kernel_rfl)
theorem below_next {w w1 w2 : World} (h : Below w.heap.size w w1) (k : Below w1.heap.size w1 w2) : Below w.heap.size w w2 := h.trans (k.mono h.size)
theorem bl_alloc (w : World) (o : Obj) : Below w.heap.size w (w.alloc o) := (Below.refl _ w).alloc (Nat.le_refl _) o
theorem ret_int {k : IntKind} {a b : Int} (h : a = b) : Ending.returned (.int k a) = .returned (.int k b) := by rw [h]
/-- A type in a box of the call's own. -/
abbrev tyO (k : Int) (nm : ByteArray) (na : Option Addr) (nl nc : Nat) (ka : Option Addr) (kl kc : Nat) : Obj := .cells #[.int .i64 k, .string nm, .slice na nl nc, .slice ka kl kc] 44
/-- The box, as long as nothing of it turns. -/
theorem box_at {w wr : World} {k : Int} {nm : ByteArray} {na : Option Addr} {nl nc : Nat} {ka : Option Addr} {kl kc B : Nat} (h : Below B (w.alloc (tyO k nm na nl nc ka kl kc)) wr) (hB : w.heap.size < B) :
    wr.cell? ⟨w.heap.size, 0, none⟩ = some (.int .i64 k) /\ wr.cell? ⟨w.heap.size, 1, none⟩ = some (.string nm) /\ wr.cell? ⟨w.heap.size, 2, none⟩ = some (.slice na nl nc) /\ wr.cell? ⟨w.heap.size, 3, none⟩ = some (.slice ka kl kc) := by
  have hh : wr.heap[w.heap.size]? = some (tyO k nm na nl nc ka kl kc) := (h.block _ hB).trans (heap_alloc_last w _)
  refine ⟨?_, ?_, ?_, ?_⟩ <;> (rw [cell_of_row _ _ _ _ _ _ hh]; rfl)
theorem sum_take (f : Ty -> Nat) (ks : List Ty) (j : Nat) (hj : j < ks.length) : ((ks.take (j + 1)).map f).sum = ((ks.take j).map f).sum + f ks[j] := by
  rw [List.take_succ_eq_append_getElem hj, List.map_append, List.sum_append]
  simp
end Go.Proofs.YtlhmofphpfdjlaaGreatDoor
