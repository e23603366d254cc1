/- What is marked, without a program in sight. -/
import Derived.Test.YtcpmdbdppdnkkaaHcV
namespace Go.Proofs.Ytcpmdbdppdnkkaa

/-- One more is marked. -/
def markM (m : Int → Bool) (x : Int) : Int → Bool := fun y => m y || decide (y = x)
def potQ (Q : List Ob) (m : Int → Bool) : Nat := (Q.map fun o => if m (o.p : Int) = true then 0 else o.l.length + 1).sum
/-- From m to m' by way of rts: what is marked anew is led to by rts, and leads to what is marked or comes later (E). -/
structure MkR (Q : List Ob) (m m' : Int → Bool) (E : List Int) (rts : List Int) (k : Nat) : Prop where
  up : ∀ x, m x = true → m' x = true
  has : ∀ x, m' x = true → m x = true ∨ hasM (hpO Q) x
  new : ∀ Cs : Int → Prop, (∀ r ∈ rts, hasM (hpO Q) r → Cs r) → (∀ y l, (y, l) ∈ hpO Q → Cs y → ∀ s ∈ l, s.ref = true → Cs s.n) → (∀ x, m' x = true → m x = true ∨ Cs x) ∧ ∀ e ∈ E, hasM (hpO Q) e ∧ Cs e
  kids : ∀ y l, (y, l) ∈ hpO Q → m' y = true → m y = false → ∀ s ∈ l, s.ref = true → m' s.n = true ∨ s.n ∈ E
  roots : ∀ r ∈ rts, hasM (hpO Q) r → m' r = true ∨ r ∈ E
  pot : E.length + potQ Q m' ≤ potQ Q m + k
section
variable {Q : List Ob} {m m1 m2 m' : Int → Bool} {E E1 E2 rts rts1 rts2 : List Int} {k k1 k2 : Nat} {x : Int}
theorem MkR.refl (Q : List Ob) (m : Int → Bool) (k : Nat) : MkR Q m m [] [] k := ⟨fun _ h => h, fun _ h => .inl h, fun _ _ _ => ⟨fun _ h => .inl h, fun _ h => (nomatch h)⟩, fun y l _ h1 h2 => absurd (h1.symm.trans h2) (by decide), fun _ h => (nomatch h), by simp⟩
theorem MkR.trans (h : MkR Q m m1 E1 rts1 k1) (h2 : MkR Q m1 m2 E2 rts2 k2) : MkR Q m m2 (E1 ++ E2) (rts1 ++ rts2) (k1 + k2) := by
  refine ⟨fun x hx => h2.up x (h.up x hx), fun x hx => (h2.has x hx).elim (fun hy => h.has x hy) .inr, fun Cs hr hc => ?_, fun y l hl hy hn s hs hsr => ?_, fun r hr hm => ?_, ?_⟩
  · obtain ⟨a1, a2⟩ := h.new Cs (fun r hr' => hr r (List.mem_append_left _ hr')) hc
    obtain ⟨b1, b2⟩ := h2.new Cs (fun r hr' => hr r (List.mem_append_right _ hr')) hc
    exact ⟨fun x hx => (b1 x hx).elim (fun hy => a1 x hy) .inr, fun e he => (List.mem_append.1 he).elim (a2 e) (b2 e)⟩
  · cases hm : m1 y with
    | true => exact (h.kids y l hl hm hn s hs hsr).imp (h2.up _) fun h => List.mem_append_left _ h
    | false => exact (h2.kids y l hl hy hm s hs hsr).imp id fun h => List.mem_append_right _ h
  · rcases List.mem_append.1 hr with hr | hr
    · exact (h.roots r hr hm).imp (h2.up _) fun h => List.mem_append_left _ h
    · exact (h2.roots r hr hm).imp id fun h => List.mem_append_right _ h
  · have := h.pot
    have := h2.pot
    rw [List.length_append]
    omega
/-- A root that is no object, or is marked. -/
theorem MkR.none (h : ¬ hasM (hpO Q) x ∨ m x = true) (k : Nat) : MkR Q m m [] [x] k := by
  have h0 := MkR.refl Q m k
  exact ⟨h0.up, h0.has, fun _ _ _ => ⟨fun _ h => .inl h, fun _ h => (nomatch h)⟩, h0.kids, fun r hr hm => by
    rw [List.mem_singleton.1 hr] at hm ⊢
    exact .inl (h.resolve_left fun h => h hm), h0.pot⟩
/-- It is looked at later. -/
theorem MkR.later (h : hasM (hpO Q) x) : MkR Q m m [x] [x] 1 := by
  have h0 := MkR.refl Q m 1
  exact ⟨h0.up, h0.has, fun Cs hr _ => ⟨fun _ h => .inl h, fun e he => by rw [List.mem_singleton.1 he]; exact ⟨h, hr x (List.mem_singleton.2 rfl) h⟩⟩, fun y l _ h1 h2 => absurd (h1.symm.trans h2) (by decide), fun r hr _ => .inr hr, by show 1 + potQ Q m ≤ potQ Q m + 1; omega⟩
theorem pot_mark {o : Ob} (hn : (Q.map (·.p)).Nodup) (ho : o ∈ Q) (hm : m (o.p : Int) = false) : potQ Q (markM m (o.p : Int)) + (o.l.length + 1) = potQ Q m := by
  induction Q with
  | nil => cases ho
  | cons o' Q ih =>
    rw [List.map_cons, List.nodup_cons] at hn
    have e1 : potQ (o' :: Q) m = (if m (o'.p : Int) = true then 0 else o'.l.length + 1) + potQ Q m := by simp [potQ]
    have e2 : potQ (o' :: Q) (markM m (o.p : Int)) = (if markM m (o.p : Int) (o'.p : Int) = true then 0 else o'.l.length + 1) + potQ Q (markM m (o.p : Int)) := by simp [potQ]
    rw [e1, e2]
    rcases List.mem_cons.1 ho with rfl | ho
    · have e3 : potQ Q (markM m (o.p : Int)) = potQ Q m := by
        unfold potQ
        congr 1
        apply List.map_congr_left
        intro o' ho'
        have : (o'.p : Int) ≠ (o.p : Int) := fun e => hn.1 (List.mem_map.2 ⟨o', ho', by omega⟩)
        simp [markM, this]
      rw [e3, hm]
      simp [markM]
      omega
    · have hne : (o'.p : Int) ≠ (o.p : Int) := fun e => hn.1 (List.mem_map.2 ⟨o, ho, by omega⟩)
      have := ih hn.2 ho
      have e4 : markM m (o.p : Int) (o'.p : Int) = m (o'.p : Int) := by simp [markM, hne]
      rw [e4]
      omega
/-- An object is marked, and what it leads to. -/
theorem MkR.visit {o : Ob} (hg : GoodM (hpO Q)) (hn : (Q.map (·.p)).Nodup) (ho : o ∈ Q) (hm : m (o.p : Int) = false) {rts : List Int} (hr : rts = (o.l.filter fun s => s.ref).map fun s => s.n) (h : MkR Q (markM m (o.p : Int)) m' E rts o.l.length) : MkR Q m m' E [(o.p : Int)] 0 := by
  have hup : ∀ x, m x = true → markM m (o.p : Int) x = true := fun x hx => by simp [markM, hx]
  have hdn : ∀ x, markM m (o.p : Int) x = true → m x = true ∨ x = (o.p : Int) := fun x hx => by simpa [markM] using hx
  have hoM : ((o.p : Int), o.l) ∈ hpO Q := hp_mem.2 ⟨o, ho, rfl⟩
  have hoH : hasM (hpO Q) (o.p : Int) := ⟨_, hoM⟩
  have hself : m' (o.p : Int) = true := h.up _ (by simp [markM])
  refine ⟨fun x hx => h.up x (hup x hx), fun x hx => ?_, fun Cs hrt hc => ?_, fun y l hl hy hny s hs hsr => ?_, fun r hr' _ => ?_, ?_⟩
  · rcases h.has x hx with h1 | h1
    · rcases hdn x h1 with h2 | rfl
      · exact .inl h2
      · exact .inr hoH
    · exact .inr h1
  · have hco := hrt _ (List.mem_singleton.2 rfl) hoH
    obtain ⟨a1, a2⟩ := h.new Cs (fun r hr' _ => by
      rw [hr] at hr'
      obtain ⟨s, hs, rfl⟩ := List.mem_map.1 hr'
      obtain ⟨hs1, hs2⟩ := List.mem_filter.1 hs
      exact hc _ _ hoM hco s hs1 hs2) hc
    refine ⟨fun x hx => ?_, a2⟩
    rcases a1 x hx with h1 | h1
    · rcases hdn x h1 with h2 | rfl
      · exact .inl h2
      · exact .inr hco
    · exact .inr h1
  · by_cases e : y = (o.p : Int)
    · subst e
      have := hg.uniq hl hoM
      subst this
      refine h.roots s.n ?_ (hg.refs _ hl s hs hsr)
      rw [hr]
      exact List.mem_map.2 ⟨s, List.mem_filter.2 ⟨hs, hsr⟩, rfl⟩
    · exact h.kids y l hl hy (by simp [markM, hny, e]) s hs hsr
  · rw [List.mem_singleton.1 hr']
    exact .inl hself
  · have h1 := h.pot
    have h2 := pot_mark hn ho hm
    omega
/-- How far it has got: what is marked, what comes later. -/
structure MkW (Q : List Ob) (rs : List Int) (m : Int → Bool) (L : List Int) : Prop where
  inR : ∀ x, m x = true → Reach (hpO Q) rs x
  later : ∀ x ∈ L, hasM (hpO Q) x → Reach (hpO Q) rs x
  kids : ∀ y l, (y, l) ∈ hpO Q → m y = true → ∀ s ∈ l, s.ref = true → m s.n = true ∨ s.n ∈ L
  roots : ∀ r ∈ rs, hasM (hpO Q) r → m r = true ∨ r ∈ L
theorem MkW.start (Q : List Ob) (rs : List Int) : MkW Q rs (fun _ => false) rs := ⟨fun _ h => (nomatch h), fun _ hr hm => reach_root hr hm, fun _ _ _ h => (nomatch h), fun _ hr _ => .inr hr⟩
theorem MkW.step {rs L : List Int} (hg : GoodM (hpO Q)) (h : MkW Q rs m (L ++ [x])) (h2 : MkR Q m m' E [x] 0) : MkW Q rs m' (L ++ E) := by
  obtain ⟨a1, a2⟩ := h2.new (fun y => Reach (hpO Q) rs y) (fun r hr hm => h.later r (List.mem_append_right _ hr) hm) fun y l hl hy s hs hsr => reach_step hy hl hs hsr
  have hto : ∀ y, hasM (hpO Q) y → m y = true ∨ y ∈ L ++ [x] → m' y = true ∨ y ∈ L ++ E := fun y hy hor => by
    rcases hor with h3 | h3
    · exact .inl (h2.up y h3)
    · rcases List.mem_append.1 h3 with h3 | h3
      · exact .inr (List.mem_append_left _ h3)
      · exact (h2.roots y h3 hy).imp id fun h => List.mem_append_right _ h
  refine ⟨fun y hy => (a1 y hy).elim (h.inR y) id, fun y hy hm => ?_, fun y l hl hy s hs hsr => ?_, fun r hr hm => hto r hm (h.roots r hr hm)⟩
  · rcases List.mem_append.1 hy with hy | hy
    · exact h.later y (List.mem_append_left _ hy) hm
    · exact (a2 y hy).2
  · cases hmy : m y with
    | true =>
      rcases h.kids y l hl hmy s hs hsr with h3 | h3
      · exact .inl (h2.up _ h3)
      · rcases List.mem_append.1 h3 with h3 | h3
        · exact .inr (List.mem_append_left _ h3)
        · exact (h2.roots s.n h3 (hg.refs _ hl s hs hsr)).imp id fun h => List.mem_append_right _ h
    | false => exact (h2.kids y l hl hy hmy s hs hsr).imp id fun h => List.mem_append_right _ h
/-- At the end what is marked is what is reached. -/
theorem MkW.done {rs : List Int} (h : MkW Q rs m []) (x : Int) : m x = true ↔ Reach (hpO Q) rs x := by
  refine ⟨h.inR x, fun hr => ?_⟩
  exact hr (fun y => m y = true) (fun r hr' hm => (h.roots r hr' hm).resolve_right fun h => (nomatch h)) fun y l hl hy s hs hsr => (h.kids y l hl hy s hs hsr).resolve_right fun h => (nomatch h)
end
end Go.Proofs.Ytcpmdbdppdnkkaa
