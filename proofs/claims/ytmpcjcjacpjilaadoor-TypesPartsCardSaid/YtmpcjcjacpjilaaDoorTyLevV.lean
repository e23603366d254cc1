/- Levels: lists of types that lie in memory, and the lists within them; what a round of types.nextLevel keeps. -/
import Derived.Test.YtmpcjcjacpjilaaDoorTySet
import Derived.Maps.AppendAt
namespace Go.Proofs.YtmpcjcjacpjilaaDoor
open Go.RowKit

def keyOfV : Value → Value
  | .slice (some a) l _ => keyV a l
  | v => v

/-- A list of types, at least one. -/
def LstAt (w : World) (u : Bool) (n : Nat) (x : Value) (ks : List Ty) : Prop :=
  ∃ b o c, x = .slice (some ⟨b, o, none⟩) ks.length c ∧ ks ≠ [] ∧ ks.length ≤ reachBytes ∧ KidsAt w u n (some ⟨b, o, none⟩) ks

def totL (n : Nat) (ps : List (Value × List Ty)) : Nat := (ps.map fun p => (p.2.map (sizeT n)).sum).sum

/-- Values one behind the other. -/
def RowAt (w : World) (a : Option Addr) (vs : List Value) : Prop := vs = [] ∨ ∃ b o, a = some ⟨b, o, none⟩ ∧ b < w.heap.size ∧ ∀ i (h : i < vs.length), w.cell? ⟨b, o + i, none⟩ = some vs[i]

theorem row_of_owns {w : World} {base e n : Nat} {v : Value} {vs : List Value} (h : w.ownsRow base e 1 v n vs) : ∃ a c, v = .slice a vs.length c ∧ RowAt w a vs ∧ vs.length = n := by
  have hl := h.1
  rw [Nat.mul_one] at hl
  rcases h.2 with ⟨rfl, h0⟩ | ⟨g, cap, cur, rfl, hg, hh, _⟩
  · subst h0
    exact ⟨none, 0, by rw [hl], .inl (List.length_eq_zero_iff.1 hl), hl⟩
  · refine ⟨some ⟨g, 0, none⟩, cap, by rw [hl], .inr ⟨g, 0, rfl, lt_of_block hh, fun i hi => ?_⟩, hl⟩
    have := h.cells (g := g) rfl i vs[i] (by simp [hi])
    have hadd : (⟨g, 0, none⟩ : Addr).add i = ⟨g, 0 + i, none⟩ := by unfold Addr.add; split <;> simp_all
    rw [hadd] at this
    exact this

theorem cells_of_cell {w : World} {b o : Nat} {v : Value} (h : w.cell? ⟨b, o, none⟩ = some v) : ∃ cs t fr, w.heap[b]? = some (.cells cs t fr) := by
  unfold World.cell? at h
  split at h
  · rename_i cs t fr hh
    exact ⟨cs, t, fr, hh⟩
  · cases h

theorem LstAt.good {w : World} {u : Bool} {n : Nat} {x : Value} {ks : List Ty} (h : LstAt w u n x ks) : ∃ b o c, x = .slice (some ⟨b, o, none⟩) ks.length c ∧ b < w.heap.size ∧ GoodA w ⟨b, o, none⟩ ∧ (u = true → PlainA w ⟨b, o, none⟩) ∧ ks ≠ [] ∧ ks.length ≤ reachBytes := by
  obtain ⟨b, o, c, rfl, hne, hl, hk⟩ := h
  rcases hk with hk | ⟨b', o', e, hlt, hf, hcl, hc⟩
  · exact absurd hk hne
  · injection e with e
    injection e with e1 e2
    subst e1 e2
    obtain ⟨c0, _, _, _, h0, _⟩ := hc 0 (List.length_pos_iff.2 hne)
    obtain ⟨cs, t, fr, hh⟩ := cells_of_cell h0
    exact ⟨b, o, c, rfl, hlt, ⟨cs, t, fr, hh, hf⟩, fun hu => hcl hu, hne, hl⟩

/-- One place and one length are one list. -/
theorem lst_det {w : World} {u u' : Bool} {n m : Nat} {x x' : Value} {ks ks' : List Ty} (h : LstAt w u n x ks) (h' : LstAt w u' m x' ks') (he : keyOfV x = keyOfV x') : ks = ks' := by
  obtain ⟨b, o, c, rfl, _, _, hk⟩ := h
  obtain ⟨b', o', c', rfl, _, _, hk'⟩ := h'
  obtain ⟨e1, e2⟩ := keyV_inj he
  injection e1 with e3 e4
  subst e3 e4
  exact kids_det hk hk' e2

theorem lst_below {w w' : World} {u : Bool} {n : Nat} {x : Value} {ks : List Ty} (h : LstAt w u n x ks) (hb : Below w.heap.size w w') : LstAt w' u n x ks := by
  obtain ⟨b, o, c, h1, h2, h3, h4⟩ := h
  exact ⟨b, o, c, h1, h2, h3, kids_below h4 hb⟩

/-- What a round keeps. -/
structure Lev (w0 wr : World) (u : Bool) (n : Nat) (v : Value) (done : List Ty) (ps : List (Value × List Ty)) (vs : List Value) : Prop where
  bl : Below w0.heap.size w0 wr
  st : SetAt wr w0.heap.size vs
  ow : wr.ownsRow (w0.heap.size + 1) 23 1 v ps.length (ps.map (·.1))
  ls : ∀ p ∈ ps, LstAt w0 u n p.1 p.2
  ky : ∀ y ∈ vs, ∃ p ∈ ps, y = keyOfV p.1
  fr : ∀ p ∈ ps, ∃ D ∈ done, p.2 = kidsT D
  tt : totL n ps ≤ (done.map (sizeT (n + 1))).sum
  al : u = true → ∀ D ∈ done, kidsT D ≠ [] → ∃ p ∈ ps, p.2 = kidsT D

section
variable {w0 wr wr' : World} {u : Bool} {n : Nat} {v : Value} {done : List Ty} {ps : List (Value × List Ty)} {vs : List Value}

theorem Lev.sz (h : Lev w0 wr u n v done ps vs) : w0.heap.size < wr.heap.size := set_lt h.st

theorem Lev.grow (h : Lev w0 wr u n v done ps vs) (hg : wr.grownBy wr' none) : Lev w0 wr' u n v done ps vs where
  bl := h.bl.grown hg h.bl.size (fun k hk => by cases hk)
  st := set_block h.st (hg.block _ h.sz (by simp))
  ow := h.ow.kept hg (by cases h1 : v.ownBlock <;> simp)
  ls := h.ls
  ky := h.ky
  fr := h.fr
  tt := h.tt
  al := h.al

theorem grown_drewN (w : World) (m : Nat) (row : Option Nat) : w.grownBy (w.drewN m) row := ⟨rfl, rfl, rfl, Nat.le_refl _, fun _ _ _ => rfl⟩

theorem Lev.goodK (h : Lev w0 wr u n v done ps vs) : ∀ y ∈ vs, GoodK wr y := by
  intro y hy
  obtain ⟨p, hp, rfl⟩ := h.ky y hy
  obtain ⟨b, o, c, e, _, hg, _⟩ := (h.ls p hp).good
  rw [e]
  exact ⟨_, _, rfl, hg.below h.bl⟩

theorem Lev.plainK (h : Lev w0 wr u n v done ps vs) (hu : u = true) : ∀ y ∈ vs, PlainK wr y := by
  intro y hy
  obtain ⟨p, hp, rfl⟩ := h.ky y hy
  obtain ⟨b, o, c, e, _, _, hg, _⟩ := (h.ls p hp).good
  rw [e]
  exact ⟨_, _, rfl, clean_below (hg hu) h.bl⟩

theorem size_pos {n : Nat} {D : Ty} : 1 ≤ sizeT (n + 1) D := by rw [sizeT]; omega

theorem Lev.skip (h : Lev w0 wr u n v done ps vs) {D : Ty} (hD : kidsT D = []) : Lev w0 wr u n v (done ++ [D]) ps vs where
  bl := h.bl
  st := h.st
  ow := h.ow
  ls := h.ls
  ky := h.ky
  fr p hp := by
    obtain ⟨E, hE, h2⟩ := h.fr p hp
    exact ⟨E, by simp [hE], h2⟩
  tt := by
    have := h.tt
    simp
    omega
  al hu E hE hne := by
    rcases List.mem_append.1 hE with hE | hE
    · exact h.al hu E hE hne
    · rw [List.mem_singleton.1 hE] at hne
      exact absurd hD hne

theorem Lev.had (h : Lev w0 wr u n v done ps vs) {D : Ty} {x : Value} (hx : LstAt w0 u n x (kidsT D)) (hf : ∃ y ∈ vs, PlainK wr (keyOfV x) → (∀ z ∈ vs, PlainK wr z) → y = keyOfV x) : Lev w0 wr u n v (done ++ [D]) ps vs where
  bl := h.bl
  st := h.st
  ow := h.ow
  ls := h.ls
  ky := h.ky
  fr p hp := by
    obtain ⟨E, hE, h2⟩ := h.fr p hp
    exact ⟨E, by simp [hE], h2⟩
  tt := by
    have := h.tt
    simp
    omega
  al hu E hE hne := by
    rcases List.mem_append.1 hE with hE | hE
    · exact h.al hu E hE hne
    · rw [List.mem_singleton.1 hE]
      obtain ⟨y, hy, hp⟩ := hf
      obtain ⟨b, o, c, e, _, _, hg, _⟩ := hx.good
      have hyx := hp (by rw [e]; exact ⟨_, _, rfl, clean_below (hg hu) h.bl⟩) (h.plainK hu)
      obtain ⟨p, hpm, he⟩ := h.ky y hy
      exact ⟨p, hpm, lst_det (h.ls p hpm) hx (he.symm.trans hyx)⟩

/-- One more: the set first, then the list. -/
theorem Lev.add {w1 w2 : World} {vs' : List Value} {v' : Value} (h : Lev w0 wr u n v done ps vs) {D : Ty} {x : Value} (hx : LstAt w0 u n x (kidsT D)) (hs : SetAt w1 w0.heap.size vs') (hg : wr.grownBy w1 (some w0.heap.size))
    (hsub : ∀ y ∈ vs', y ∈ vs ∨ y = keyOfV x) {o : Obj} (ho : w2.ownsRow (w0.heap.size + 1) 23 1 v' (ps.length + 1) (ps.map (·.1) ++ [x])) (hg2 : (w1.alloc o).grownBy w2 v.ownBlock) :
    Lev w0 w2 u n v' (done ++ [D]) (ps ++ [(x, kidsT D)]) vs' := by
  have hsz := h.sz
  have hlow : ∀ i, i ≤ w0.heap.size → w2.heap[i]? = w1.heap[i]? := fun i hi => by
    have h1 : i < w1.heap.size := Nat.lt_of_le_of_lt hi (Nat.lt_of_lt_of_le hsz hg.size)
    rw [hg2.block i (by simp; omega) (fun e => by have := (h.ow.lt i e.symm).1; omega), Below.heap_alloc _ _ _ h1]
  refine ⟨⟨?_, ?_, ?_, ?_, ?_⟩, ?_, ?_, ?_, ?_, ?_, ?_, ?_⟩
  · rw [hg2.os]; exact hg.os.trans h.bl.os
  · rw [hg2.tape]; exact hg.tape.trans h.bl.tape
  · rw [hg2.output]; exact hg.output.trans h.bl.output
  · have h1 := hg2.size
    have h2 := hg.size
    simp at h1
    omega
  · intro k hk
    rw [hlow k (by omega), hg.block k (by omega) (fun e => by injection e with e; omega)]
    exact h.bl.block k hk
  · exact set_block hs (hlow _ (Nat.le_refl _))
  · simpa using ho
  · intro p hp
    rcases List.mem_append.1 hp with hp | hp
    · exact h.ls p hp
    · rw [List.mem_singleton.1 hp]
      exact hx
  · intro y hy
    rcases hsub y hy with hy | rfl
    · obtain ⟨p, hp, e⟩ := h.ky y hy
      exact ⟨p, by simp [hp], e⟩
    · exact ⟨(x, kidsT D), by simp, rfl⟩
  · intro p hp
    rcases List.mem_append.1 hp with hp | hp
    · obtain ⟨E, hE, h2⟩ := h.fr p hp
      exact ⟨E, by simp [hE], h2⟩
    · rw [List.mem_singleton.1 hp]
      exact ⟨D, by simp, rfl⟩
  · have := h.tt
    unfold totL at this ⊢
    simp only [List.map_append, List.sum_append, List.map_cons, List.map_nil, List.sum_cons, List.sum_nil]
    rw [show sizeT (n + 1) D = 1 + ((kidsT D).map (sizeT n)).sum from rfl]
    omega
  · intro hu E hE hne
    rcases List.mem_append.1 hE with hE | hE
    · obtain ⟨p, hp, e⟩ := h.al hu E hE hne
      exact ⟨p, by simp [hp], e⟩
    · rw [List.mem_singleton.1 hE]
      exact ⟨(x, kidsT D), by simp, rfl⟩

theorem tot_len {w : World} : ∀ {ps : List (Value × List Ty)}, (∀ p ∈ ps, LstAt w u n p.1 p.2) → ps.length ≤ totL n ps
  | [], _ => Nat.zero_le _
  | p :: ps, h => by
    have ih := tot_len (ps := ps) fun q hq => h q (by simp [hq])
    unfold totL at ih ⊢
    obtain ⟨b, o, c, _, hne, _, hk⟩ := h p (by simp)
    have h1 : 1 ≤ (p.2.map (sizeT n)).sum := by
      rcases hk with hk | ⟨_, _, _, _, _, _, hc⟩
      · exact absurd hk hne
      · obtain ⟨_, _, _, _, _, _, _, _, ht⟩ := hc 0 (List.length_pos_iff.2 hne)
        obtain ⟨m, rfl⟩ : ∃ m, n = m + 1 := by
          cases n with
          | zero => exact ht.elim
          | succ m => exact ⟨m, rfl⟩
        obtain ⟨D, ks, e⟩ := List.exists_cons_of_ne_nil hne
        rw [e, List.map_cons, List.sum_cons]
        have := size_pos (n := m) (D := D)
        omega
    simp only [List.map_cons, List.sum_cons, List.length_cons]
    omega
end
end Go.Proofs.YtmpcjcjacpjilaaDoor
