/- The program's cells, without a program in sight. -/
import Derived.Test.YtcpmdbdppdnkkaaHpV
namespace Go.Proofs.Ytcpmdbdppdnkkaa

structure CellV where
  n : Int
  next : Int
  ref : Bool
  first : Bool
  stays : Bool
/-- An object: its first cell, its slots, the cells behind the first. -/
structure Ob where
  p : Nat
  l : List SlotV
  ps : List Nat
def Path (C : List CellV) : Int → List Nat → Prop
  | a, [] => a = -1
  | a, p :: ps => a = (p : Int) ∧ ∃ c, C[p]? = some c ∧ Path C c.next ps
def SlotsC (C : List CellV) : Int → List Nat → List SlotV → Prop
  | a, [], [] => a = -1
  | a, p :: ps, s :: l => a = (p : Int) ∧ ∃ c, C[p]? = some c ∧ c.n = s.n ∧ c.ref = s.ref ∧ c.first = false ∧ SlotsC C c.next ps l
  | _, [], _ :: _ => False
  | _, _ :: _, [] => False
def ObjC (C : List CellV) (o : Ob) : Prop := ∃ c, C[o.p]? = some c ∧ c.first = true ∧ c.n = o.l.length ∧ SlotsC C c.next o.ps o.l
def allO (Q : List Ob) : List Nat := Q.flatMap fun o => o.p :: o.ps
section
variable {C C' : List CellV} {a : Int} {ps fr pend : List Nat} {l : List SlotV} {p : Nat} {c c' : CellV} {Q A B : List Ob} {o : Ob} {free : Int}
theorem slots_path : ∀ {ps : List Nat} {l : List SlotV} {a : Int}, SlotsC C a ps l → Path C a ps
  | [], [], _, h => h
  | [], _ :: _, _, h => h.elim
  | _ :: _, [], _, h => h.elim
  | _ :: _, _ :: _, _, ⟨h1, c, h2, _, _, _, h3⟩ => ⟨h1, c, h2, slots_path h3⟩
theorem slots_len : ∀ {ps : List Nat} {l : List SlotV} {a : Int}, SlotsC C a ps l → ps.length = l.length
  | [], [], _, _ => rfl
  | [], _ :: _, _, h => h.elim
  | _ :: _, [], _, h => h.elim
  | _ :: _, _ :: _, _, ⟨_, _, _, _, _, _, h3⟩ => by rw [List.length_cons, List.length_cons, slots_len h3]
theorem path_lt : ∀ {ps : List Nat} {a : Int}, Path C a ps → ∀ q ∈ ps, q < C.length
  | [], _, _, _, hq => by cases hq
  | p :: ps, a, ⟨_, c, h2, h3⟩, q, hq => by
    rcases List.mem_cons.1 hq with rfl | hq
    · exact (List.getElem?_eq_some_iff.1 h2).1
    · exact path_lt h3 q hq
/-- Where no cell of a way has turned, it is as it was. -/
theorem path_frame : ∀ {ps : List Nat} {a : Int}, Path C a ps → (∀ q ∈ ps, C'[q]? = C[q]?) → Path C' a ps
  | [], _, h, _ => h
  | p :: _, _, ⟨h1, c, h2, h3⟩, hf => ⟨h1, c, (hf p (List.mem_cons_self ..)).trans h2, path_frame h3 fun q hq => hf q (List.mem_cons_of_mem _ hq)⟩
theorem slots_frame : ∀ {ps : List Nat} {l : List SlotV} {a : Int}, SlotsC C a ps l → (∀ q ∈ ps, C'[q]? = C[q]?) → SlotsC C' a ps l
  | [], [], _, h, _ => h
  | [], _ :: _, _, h, _ => h.elim
  | _ :: _, [], _, h, _ => h.elim
  | p :: _, _ :: _, _, ⟨h1, c, h2, e1, e2, e3, h3⟩, hf => ⟨h1, c, (hf p (List.mem_cons_self ..)).trans h2, e1, e2, e3, slots_frame h3 fun q hq => hf q (List.mem_cons_of_mem _ hq)⟩
theorem objC_frame (h : ObjC C o) (hf : ∀ q ∈ o.p :: o.ps, C'[q]? = C[q]?) : ObjC C' o := by
  obtain ⟨c, h1, h2, h3, h4⟩ := h
  exact ⟨c, (hf _ (List.mem_cons_self ..)).trans h1, h2, h3, slots_frame h4 fun q hq => hf q (List.mem_cons_of_mem _ hq)⟩
theorem objC_lt (h : ObjC C o) : ∀ q ∈ o.p :: o.ps, q < C.length := by
  obtain ⟨c, h1, _, _, h4⟩ := h
  intro q hq
  rcases List.mem_cons.1 hq with rfl | hq
  · exact (List.getElem?_eq_some_iff.1 h1).1
  · exact path_lt (slots_path h4) q hq
/-- All but the marks is alike. -/
def Like (C C' : List CellV) : Prop := C'.length = C.length ∧ ∀ (p : Nat) c, C[p]? = some c → ∃ b, C'[p]? = some { c with stays := b }
theorem Like.refl (C : List CellV) : Like C C := ⟨rfl, fun _ c h => ⟨c.stays, h⟩⟩
theorem like_set (h : C[p]? = some c) (b : Bool) : Like C (C.set p { c with stays := b }) := by
  refine ⟨List.length_set, fun q d hd => ?_⟩
  by_cases e : p = q
  · subst e
    rw [h] at hd
    cases hd
    exact ⟨b, List.getElem?_set_self (List.getElem?_eq_some_iff.1 h).1⟩
  · exact ⟨d.stays, by rw [List.getElem?_set_ne e]; exact hd⟩
theorem Like.trans {C2 : List CellV} (h : Like C C') (k : Like C' C2) : Like C C2 := ⟨k.1.trans h.1, fun p c hc => by
  obtain ⟨b, h1⟩ := h.2 p c hc
  obtain ⟨b2, h2⟩ := k.2 p _ h1
  exact ⟨b2, h2⟩⟩
theorem path_like (hl : Like C C') : ∀ {ps : List Nat} {a : Int}, Path C a ps → Path C' a ps
  | [], _, h => h
  | p :: ps, a, ⟨h1, c, h2, h3⟩ => by
    obtain ⟨b, hb⟩ := hl.2 p c h2
    exact ⟨h1, _, hb, path_like hl h3⟩
theorem slots_like (hl : Like C C') : ∀ {ps : List Nat} {l : List SlotV} {a : Int}, SlotsC C a ps l → SlotsC C' a ps l
  | [], [], _, h => h
  | [], _ :: _, _, h => h.elim
  | _ :: _, [], _, h => h.elim
  | p :: ps, s :: l, a, ⟨h1, c, h2, e1, e2, e3, h3⟩ => by
    obtain ⟨b, hb⟩ := hl.2 p c h2
    exact ⟨h1, _, hb, e1, e2, e3, slots_like hl h3⟩
theorem objC_like (hl : Like C C') (h : ObjC C o) : ObjC C' o := by
  obtain ⟨c, h1, h2, h3, h4⟩ := h
  obtain ⟨b, hb⟩ := hl.2 _ c h1
  exact ⟨_, hb, h2, h3, slots_like hl h4⟩
/-- The arena's cells: each is free, or an object's, or of a chain that is under way. -/
structure Kp (C : List CellV) (free : Int) (Q : List Ob) (fr pend : List Nat) : Prop where
  free : Path C free fr
  objs : ∀ o ∈ Q, ObjC C o
  nd : (fr ++ (pend ++ allO Q)).Nodup
  len : fr.length + pend.length + (allO Q).length = C.length
  inC : ∀ p ∈ pend, p < C.length
  firsts : ∀ (p : Nat) c, C[p]? = some c → c.first = true → p ∈ pend ∨ ∃ o ∈ Q, o.p = p
theorem mem_allO {q : Nat} : q ∈ allO Q ↔ ∃ o ∈ Q, q ∈ o.p :: o.ps := List.mem_flatMap
theorem Kp.asLike (h : Kp C free Q fr pend) (hl : Like C C') : Kp C' free Q fr pend := by
  refine ⟨path_like hl h.free, fun o ho => objC_like hl (h.objs o ho), h.nd, h.len.trans hl.1.symm, fun p hp => by rw [hl.1]; exact h.inC p hp, fun p c hc hf => ?_⟩
  have hlt := (List.getElem?_eq_some_iff.1 hc).1
  rw [hl.1] at hlt
  obtain ⟨b, hb⟩ := hl.2 p _ (List.getElem?_eq_getElem hlt)
  rw [hc] at hb
  injection hb with hb
  refine h.firsts p _ (List.getElem?_eq_getElem hlt) ?_
  rw [hb] at hf
  exact hf
theorem Kp.start : Kp [] (-1) [] [] [] := ⟨rfl, fun _ h => (nomatch h), List.nodup_nil, rfl, fun _ h => (nomatch h), fun p c h => (by simp at h)⟩
theorem Kp.lts (h : Kp C free Q fr pend) : ∀ q ∈ fr ++ (pend ++ allO Q), q < C.length := by
  intro q hq
  rcases List.mem_append.1 hq with hq | hq
  · exact path_lt h.free q hq
  · rcases List.mem_append.1 hq with hq | hq
    · exact h.inC q hq
    · obtain ⟨o, ho, hqo⟩ := mem_allO.1 hq
      exact objC_lt (h.objs o ho) q hqo
/-- A free cell is taken. -/
theorem Kp.take (h : Kp C (p : Int) Q fr pend) : ∃ c fr', fr = p :: fr' ∧ C[p]? = some c ∧ (∀ q ∈ pend, q ≠ p) ∧ ∀ c' : CellV, Kp (C.set p c') c.next Q fr' (p :: pend) := by
  have h1 := h.free
  cases fr with
  | nil => exact absurd (show (p : Int) = -1 from h1) (by omega)
  | cons q fr' =>
    obtain ⟨e, c, h2, h3⟩ := h1
    have e' : p = q := by omega
    subst e'
    have hn := h.nd
    rw [List.cons_append, List.nodup_cons] at hn
    have hfar : ∀ q ∈ fr' ++ (pend ++ allO Q), ∀ c', (C.set p c')[q]? = C[q]? := fun q hq c' => List.getElem?_set_ne (fun e => hn.1 (by rw [e]; exact hq))
    refine ⟨c, fr', rfl, h2, fun q hq e => hn.1 (e ▸ List.mem_append_right _ (List.mem_append_left _ hq)), fun c' => ⟨path_frame h3 fun q hq => hfar q (List.mem_append_left _ hq) c', fun o ho => objC_frame (h.objs o ho) fun q hq => hfar q (List.mem_append_right _ (List.mem_append_right _ (mem_allO.2 ⟨o, ho, hq⟩))) c', ?_, ?_, ?_, ?_⟩⟩
    · exact (List.perm_middle.nodup_iff).2 (by rw [List.nodup_cons]; exact hn)
    · have := h.len
      rw [List.length_set]
      simp only [List.length_cons] at this ⊢
      omega
    · intro q hq
      rw [List.length_set]
      rcases List.mem_cons.1 hq with rfl | hq
      · exact (List.getElem?_eq_some_iff.1 h2).1
      · exact h.inC q hq
    · intro q d hd hf
      by_cases e : p = q
      · exact .inl (by rw [e]; exact List.mem_cons_self ..)
      · rw [List.getElem?_set_ne e] at hd
        rcases h.firsts q d hd hf with h4 | h4
        · exact .inl (List.mem_cons_of_mem _ h4)
        · exact .inr h4
/-- There is none: one more. -/
theorem Kp.more (h : Kp C (-1) Q fr pend) : fr = [] ∧ ∀ c' : CellV, Kp (C ++ [c']) (-1) Q fr (C.length :: pend) := by
  have h1 := h.free
  cases fr with
  | cons q fr' => exact absurd h1.1 (by omega)
  | nil =>
    have hlt := h.lts
    have hfar : ∀ q ∈ ([] : List Nat) ++ (pend ++ allO Q), ∀ c', (C ++ [c'])[q]? = C[q]? := fun q hq c' => List.getElem?_append_left (hlt q hq)
    refine ⟨rfl, fun c' => ⟨h1, fun o ho => objC_frame (h.objs o ho) fun q hq => hfar q (List.mem_append_right _ (List.mem_append_right _ (mem_allO.2 ⟨o, ho, hq⟩))) c', ?_, ?_, ?_, ?_⟩⟩
    · have hn := h.nd
      rw [List.nil_append] at hn hlt ⊢
      rw [List.cons_append, List.nodup_cons]
      exact ⟨fun hm => Nat.lt_irrefl _ (hlt _ hm), hn⟩
    · have := h.len
      rw [List.length_append]
      simp only [List.length_cons, List.length_nil] at this ⊢
      omega
    · intro q hq
      rw [List.length_append]
      rcases List.mem_cons.1 hq with rfl | hq
      · exact Nat.lt_succ_self _
      · have := h.inC q hq
        omega
    · intro q d hd hf
      by_cases e : q < C.length
      · rw [List.getElem?_append_left e] at hd
        rcases h.firsts q d hd hf with h4 | h4
        · exact .inl (List.mem_cons_of_mem _ h4)
        · exact .inr h4
      · have hq := (List.getElem?_eq_some_iff.1 hd).1
        rw [List.length_append] at hq
        have : q = C.length := by simp at hq; omega
        exact .inl (by rw [this]; exact List.mem_cons_self ..)
theorem allO_app : allO (A ++ B) = allO A ++ allO B := List.flatMap_append
theorem allO_one : allO [o] = o.p :: o.ps := by simp [allO]
/-- What is whole becomes an object. -/
theorem Kp.close (h : Kp C free Q fr (o.p :: o.ps)) (ho : ObjC C o) : Kp C free (Q ++ [o]) fr [] := by
  refine ⟨h.free, fun x hx => ?_, ?_, ?_, fun _ h => (nomatch h), fun p c hc hf => ?_⟩
  · rcases List.mem_append.1 hx with hx | hx
    · exact h.objs x hx
    · rw [List.mem_singleton.1 hx]
      exact ho
  · rw [allO_app, allO_one, List.nil_append]
    exact ((List.perm_append_comm (l₁ := o.p :: o.ps) (l₂ := allO Q)).append_left fr).nodup_iff.1 h.nd
  · have := h.len
    rw [allO_app, allO_one, List.length_append]
    simp only [List.length_nil] at this ⊢
    omega
  · right
    rcases h.firsts p c hc hf with h1 | ⟨x, h1, h2⟩
    · rcases List.mem_cons.1 h1 with h1 | h1
      · exact ⟨o, List.mem_append_right _ (List.mem_singleton.2 rfl), h1.symm⟩
      · obtain ⟨c0, _, _, _, h4⟩ := ho
        have key : ∀ {ps : List Nat} {l : List SlotV} {a : Int}, SlotsC C a ps l → ∀ q ∈ ps, ∀ d, C[q]? = some d → d.first = false := by
          intro ps
          induction ps with
          | nil => intro l a _ q hq; cases hq
          | cons q0 ps ih =>
            intro l a hs q hq d hd
            cases l with
            | nil => exact hs.elim
            | cons s l =>
              obtain ⟨_, c, h5, _, _, h6, h7⟩ := hs
              rcases List.mem_cons.1 hq with rfl | hq
              · rw [h5] at hd
                cases hd
                exact h6
              · exact ih h7 q hq d hd
        rw [key h4 p h1 c hc] at hf
        cases hf
    · exact ⟨x, List.mem_append_left _ h1, h2⟩
/-- An object is to go. -/
theorem Kp.open (h : Kp C free (A ++ o :: B) fr []) : Kp C free (A ++ B) fr (o.p :: o.ps) ∧ Path C (o.p : Int) (o.p :: o.ps) := by
  have ho := h.objs o (List.mem_append_right _ (List.mem_cons_self ..))
  have e : allO (A ++ o :: B) = allO A ++ ((o.p :: o.ps) ++ allO B) := by
    rw [allO_app, show o :: B = [o] ++ B from rfl, allO_app, allO_one]
  refine ⟨⟨h.free, fun x hx => h.objs x ?_, ?_, ?_, objC_lt ho, fun p c hc hf => ?_⟩, ?_⟩
  · rcases List.mem_append.1 hx with hx | hx
    · exact List.mem_append_left _ hx
    · exact List.mem_append_right _ (List.mem_cons_of_mem _ hx)
  · have hn := h.nd
    rw [e, List.nil_append] at hn
    rw [allO_app]
    refine (List.Perm.append_left fr ?_).nodup_iff.1 hn
    rw [← List.append_assoc, ← List.append_assoc]
    exact List.perm_append_comm.append_right _
  · have := h.len
    rw [e] at this
    rw [allO_app]
    simp only [List.length_append, List.length_nil, List.length_cons] at this ⊢
    omega
  · rcases h.firsts p c hc hf with h1 | ⟨x, h1, h2⟩
    · cases h1
    · rcases List.mem_append.1 h1 with h1 | h1
      · exact .inr ⟨x, List.mem_append_left _ h1, h2⟩
      · rcases List.mem_cons.1 h1 with rfl | h1
        · exact .inl (by rw [← h2]; exact List.mem_cons_self ..)
        · exact .inr ⟨x, List.mem_append_right _ h1, h2⟩
  · obtain ⟨c, h1, _, _, h4⟩ := ho
    exact ⟨rfl, c, h1, slots_path h4⟩
/-- One cell goes. -/
theorem Kp.drop (h : Kp C free Q fr (p :: pend)) (hp : Path C a (p :: pend)) : a = (p : Int) ∧ ∃ c, C[p]? = some c ∧ ∀ c' : CellV, c'.next = free → c'.first = false → Kp (C.set p c') (p : Int) Q (p :: fr) pend ∧ Path (C.set p c') c.next pend := by
  obtain ⟨e, c, h2, h3⟩ := hp
  refine ⟨e, c, h2, fun c' e1 e2 => ?_⟩
  have hn := (List.perm_middle.nodup_iff).1 h.nd
  have hn2 := (List.nodup_cons.1 hn).1
  have hfar : ∀ q ∈ fr ++ (pend ++ allO Q), (C.set p c')[q]? = C[q]? := fun q hq => List.getElem?_set_ne (fun e => hn2 (by rw [e]; exact hq))
  have hlt := (List.getElem?_eq_some_iff.1 h2).1
  refine ⟨⟨⟨rfl, c', List.getElem?_set_self hlt, ?_⟩, fun o ho => objC_frame (h.objs o ho) fun q hq => hfar q (List.mem_append_right _ (List.mem_append_right _ (mem_allO.2 ⟨o, ho, hq⟩))), hn, ?_, ?_, ?_⟩, path_frame h3 fun q hq => hfar q (List.mem_append_right _ (List.mem_append_left _ hq))⟩
  · rw [e1]
    exact path_frame h.free fun q hq => hfar q (List.mem_append_left _ hq)
  · have := h.len
    rw [List.length_set]
    simp only [List.length_cons] at this ⊢
    omega
  · intro q hq
    rw [List.length_set]
    exact h.inC q (List.mem_cons_of_mem _ hq)
  · intro q d hd hf
    by_cases e : p = q
    · subst e
      rw [List.getElem?_set_self hlt] at hd
      cases hd
      rw [e2] at hf
      cases hf
    · rw [List.getElem?_set_ne e] at hd
      rcases h.firsts q d hd hf with h4 | h4
      · rcases List.mem_cons.1 h4 with h4 | h4
        · exact absurd h4.symm e
        · exact .inl h4
      · exact .inr h4
/-- The objects as they are known by their numbers. -/
def hpO (Q : List Ob) : Hp := Q.map fun o => ((o.p : Int), o.l)
theorem hp_mem {q : Int × List SlotV} : q ∈ hpO Q ↔ ∃ o ∈ Q, q = ((o.p : Int), o.l) := by
  unfold hpO
  rw [List.mem_map]
  exact ⟨fun ⟨o, h, e⟩ => ⟨o, h, e.symm⟩, fun ⟨o, h, e⟩ => ⟨o, h, e.symm⟩⟩
theorem hp_has {x : Int} : hasM (hpO Q) x ↔ ∃ o ∈ Q, x = (o.p : Int) := by
  unfold hasM
  constructor
  · rintro ⟨l, hl⟩
    obtain ⟨o, h, e⟩ := hp_mem.1 hl
    exact ⟨o, h, (Prod.mk.inj e).1⟩
  · rintro ⟨o, h, rfl⟩
    exact ⟨o.l, hp_mem.2 ⟨o, h, rfl⟩⟩
theorem used_all (h : ∀ o ∈ Q, ObjC C o) : usedM (hpO Q) = (allO Q).length := by
  induction Q with
  | nil => rfl
  | cons o Q ih =>
    have e : usedM (hpO (o :: Q)) = o.l.length + 1 + usedM (hpO Q) := used_push (x := (o.p : Int)) (l := o.l)
    obtain ⟨c, _, _, _, h4⟩ := h o (List.mem_cons_self ..)
    rw [e, ih fun x hx => h x (List.mem_cons_of_mem _ hx), show o :: Q = [o] ++ Q from rfl, allO_app, allO_one, List.length_append, List.length_cons, slots_len h4]
/-- What has the head of an object is one. -/
theorem Kp.has (h : Kp C free Q fr []) {c : CellV} (hc : C[p]? = some c) : c.first = true ↔ hasM (hpO Q) (p : Int) := by
  constructor
  · intro hf
    rcases h.firsts p c hc hf with h1 | ⟨o, h1, h2⟩
    · cases h1
    · exact hp_has.2 ⟨o, h1, by rw [h2]⟩
  · intro hm
    obtain ⟨o, h1, h2⟩ := hp_has.1 hm
    obtain ⟨d, h3, h4, _⟩ := h.objs o h1
    have : p = o.p := by omega
    rw [← this, hc] at h3
    cases h3
    exact h4
theorem Kp.heads (h : Kp C free Q fr pend) : (Q.map (·.p)).Nodup := by
  have hn := ((h.nd.sublist (List.sublist_append_right _ _)).sublist (List.sublist_append_right _ _))
  have key : ∀ Q : List Ob, (Q.map (·.p)).Sublist (allO Q) := by
    intro Q
    induction Q with
    | nil => exact List.Sublist.refl _
    | cons o Q ih =>
      rw [show o :: Q = [o] ++ Q from rfl, allO_app, allO_one, List.map_append]
      exact List.Sublist.append (by simp) ih
  exact hn.sublist (key Q)
/-- The marks of objects. -/
def StQ (C : List CellV) (Q : List Ob) (m : Int → Bool) : Prop := ∀ o ∈ Q, ∀ c, C[o.p]? = some c → c.stays = m (o.p : Int)
end
end Go.Proofs.Ytcpmdbdppdnkkaa
