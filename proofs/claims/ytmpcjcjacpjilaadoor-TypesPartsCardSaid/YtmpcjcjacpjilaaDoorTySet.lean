/- A set whose keys bear addresses: a look-up and a store, at the operation. -/
import Derived.Test.YtmpcjcjacpjilaaDoorTyKey
namespace Go.Proofs.YtmpcjcjacpjilaaDoor
open Go.RowKit Go.MapKept
open Go.ChangeMaps (setBlock)

/-- What is asked of a key's type: how two keys are held against one another. -/
structure KeyOK (K : TypeId) (G P : World → Value → Prop) : Prop where
  eq : ∀ w x y, G w x → G w y → ∃ r n, (Op.equal K x y).run Tryd.prog w = .ok r (w.drewN n) ∧ (x = y → r = true) ∧ (P w x → P w y → (r = true → x = y))
  check : ∀ w em x, G w x → (Instr.checkKey em 10000 K x).run Tryd.prog w = .ok () w
  drew : ∀ w n x, G w x → G (w.drewN n) x
  drewP : ∀ w n x, P w x → P (w.drewN n) x
  now : ∀ w x y, G w x → ∃ d, Tryd.prog.underlying K = some d ∧ Instr.sameNow d x y = none

section
variable {K : TypeId} {G P : World → Value → Prop}

theorem find_asking (O : KeyOK K G P) : ∀ (es : List MapEntry) (i : Nat) (w : World) (x : Value), G w x → (∀ e ∈ es, G w e.key) →
    ∃ n r, (Instr.findAsking K x es i).run Tryd.prog w = .ok r (w.drewN n) ∧
      ((r = none ∧ ∀ e ∈ es, e.key ≠ x) ∨ ∃ j e, r = some (i + j, e.val) ∧ es[j]? = some e ∧ (P w x → (∀ e ∈ es, P w e.key) → e.key = x))
  | [], i, w, x, _, _ => ⟨0, none, by simp [Instr.findAsking]; rfl, .inl ⟨rfl, by simp⟩⟩
  | e :: es, i, w, x, hx, hes => by
    obtain ⟨r, n, h, h1, h2⟩ := O.eq w x e.key hx (hes e (by simp))
    cases r
    · obtain ⟨n', r', h', hr⟩ := find_asking O es (i + 1) (w.drewN n) x (O.drew w n x hx) (fun e' he' => O.drew w n _ (hes e' (by simp [he'])))
      refine ⟨n + n', r', by simp [Instr.findAsking, h, h'], ?_⟩
      rcases hr with ⟨rfl, hn⟩ | ⟨j, e', rfl, hj, hp⟩
      · refine .inl ⟨rfl, fun e' he' => ?_⟩
        rcases List.mem_cons.1 he' with rfl | he'
        · exact fun e2 => absurd (h1 e2.symm) (by decide)
        · exact hn e' he'
      · exact .inr ⟨j + 1, e', by rw [Nat.add_assoc, Nat.add_comm 1 j], by simpa using hj, fun p1 p2 => hp (O.drewP w n x p1) fun e2 he2 => O.drewP w n _ (p2 e2 (by simp [he2]))⟩
    · exact ⟨n, some (i, e.val), by simp [Instr.findAsking, h], .inr ⟨0, e, by simp, by simp, fun p1 p2 => (h2 p1 (p2 e (by simp)) rfl).symm⟩⟩

theorem find_key (O : KeyOK K G P) (es : List MapEntry) (w : World) (x : Value) (hx : G w x) (hes : ∀ e ∈ es, G w e.key) :
    ∃ n r, (Instr.findKey K x es).run Tryd.prog w = .ok r (w.drewN n) ∧
      ((r = none ∧ ∀ e ∈ es, e.key ≠ x) ∨ ∃ j e, r = some (j, e.val) ∧ es[j]? = some e ∧ (P w x → (∀ e ∈ es, P w e.key) → e.key = x)) := by
  cases es with
  | nil =>
    obtain ⟨d, hd, _⟩ := O.now w x x hx
    exact ⟨0, none, by simp [Instr.findKey, run_underlying hd, Instr.findNow]; rfl, .inl ⟨rfl, by simp⟩⟩
  | cons e es =>
    obtain ⟨d, hd, hs⟩ := O.now w x e.key hx
    obtain ⟨n, r, h, hr⟩ := find_asking O (e :: es) 0 w x hx hes
    refine ⟨n, r, by simp [Instr.findKey, run_underlying hd, Instr.findNow, hs, h], ?_⟩
    rcases hr with hr | ⟨j, e', h1, h2, h3⟩
    · exact .inl hr
    · exact .inr ⟨j, e', by simpa using h1, h2, h3⟩

/-- Block b is a set of these keys. -/
def SetAt (w : World) (b : Nat) (vs : List Value) : Prop := ∃ es clock, w.heap[b]? = some (.map es clock) ∧ es.toList.map (·.key) = vs ∧ ∀ e ∈ es.toList, e.val = .agg #[]

theorem set_made (w : World) : SetAt (w.alloc (.map #[] 0)) w.heap.size [] := ⟨#[], 0, heap_alloc_last w _, rfl, by simp⟩

theorem set_block {w w' : World} {b : Nat} {vs : List Value} (h : SetAt w b vs) (hb : w'.heap[b]? = w.heap[b]?) : SetAt w' b vs := by
  obtain ⟨es, clock, h1, h2⟩ := h
  exact ⟨es, clock, hb.trans h1, h2⟩

theorem set_lt {w : World} {b : Nat} {vs : List Value} (h : SetAt w b vs) : b < w.heap.size := by
  obtain ⟨es, clock, h1, _⟩ := h
  exact lt_of_block h1

variable {w : World} {b : Nat} {vs : List Value} {t e : TypeId}

theorem set_look (O : KeyOK K G P) (ht : Tryd.prog.underlying t = some (.map K e)) (hz : (zeroValue e).run Tryd.prog = fun w => .ok (.agg #[]) w) (h : SetAt w b vs) {x : Value} (hx : G w x) (hvs : ∀ y ∈ vs, G w y) :
    ∃ r n, (Instr.lookup t (.map (some b)) x true).run Tryd.prog w = .ok (.tuple #[.agg #[], .bool r]) (w.drewN n) ∧ (r = false → x ∉ vs) ∧ (r = true → ∃ y ∈ vs, P w x → (∀ z ∈ vs, P w z) → y = x) := by
  obtain ⟨es, clock, hb, rfl, hv⟩ := h
  have hg : ∀ e ∈ es.toList, G w e.key := fun e he => hvs _ (List.mem_map.2 ⟨e, he, rfl⟩)
  obtain ⟨n, r, hf, hr⟩ := find_key O es.toList w x hx hg
  rcases hr with ⟨rfl, hn⟩ | ⟨j, e0, rfl, hj, hp⟩
  · refine ⟨false, n, ?_, fun _ hm => ?_, fun h => by cases h⟩
    · simp [Instr.lookup, run_underlying ht, MapKept.run_getObj_map hb, O.check w _ _ hx, hf, hz, Result.andThen]
    · obtain ⟨e1, he1, h2⟩ := List.mem_map.1 hm
      exact hn e1 he1 h2
  · have hm := List.mem_of_getElem? hj
    refine ⟨true, n, ?_, fun h => (by cases h), fun _ => ⟨e0.key, List.mem_map.2 ⟨e0, hm, rfl⟩, fun p1 p2 => hp p1 fun e1 he1 => p2 _ (List.mem_map.2 ⟨e1, he1, rfl⟩)⟩⟩
    simp [Instr.lookup, run_underlying ht, MapKept.run_getObj_map hb, O.check w _ _ hx, hf, hv e0 hm, Result.andThen]

theorem stays_any (w : World) (old new : Value) : ∃ v n, (Instr.keyThatStays old new).run Tryd.prog w = .ok v (w.drewN n) ∧ (v = new ∨ v = old) := by
  generalize hR : (Instr.keyThatStays old new).run Tryd.prog w = R
  simp [Instr.keyThatStays] at hR
  repeat' split at hR
  all_goals first | exact ⟨_, 0, hR.symm, .inl rfl⟩ | exact ⟨_, 1, hR.symm, .inl rfl⟩ | exact ⟨_, 0, hR.symm, .inr rfl⟩ | exact ⟨_, 1, hR.symm, .inr rfl⟩

theorem set_store (O : KeyOK K G P) (ht : Tryd.prog.underlying t = some (.map K e)) (h : SetAt w b vs) {x : Value} (hx : G w x) (hvs : ∀ y ∈ vs, G w y) :
    ∃ w' vs', (Instr.mapUpdate t (.map (some b)) x (.agg #[])).run Tryd.prog w = .ok () w' ∧ SetAt w' b vs' ∧ w.grownBy w' (some b) ∧ (∀ y ∈ vs', y ∈ vs ∨ y = x) ∧ (P w x → (∀ z ∈ vs, P w z) → ∀ y, y ∈ vs ∨ y = x → y ∈ vs') := by
  obtain ⟨es, clock, hb, rfl, hv⟩ := h
  have hg : ∀ e ∈ es.toList, G w e.key := fun e he => hvs _ (List.mem_map.2 ⟨e, he, rfl⟩)
  obtain ⟨n, r, hf, hr⟩ := find_key O es.toList w x hx hg
  have hbl : ∀ m o, (setBlock (w.drewN m) b o).heap[b]? = some o := fun m o => by
    have hlt := lt_of_block hb
    simp [setBlock, hlt]
  have hgr : ∀ m o, w.grownBy (setBlock (w.drewN m) b o) (some b) := fun m o => ⟨rfl, rfl, rfl, by simp [setBlock], fun i _ hi => by
    have : b ≠ i := fun e => hi (by rw [e])
    simp [setBlock, this]⟩
  have hbd : ∀ m, (w.drewN m).heap[b]? = some (.map es clock) := fun m => hb
  rcases hr with ⟨rfl, hn⟩ | ⟨j, e0, rfl, hj, hp⟩
  · refine ⟨setBlock (w.drewN n) b (.map (es.push ⟨x, .agg #[], clock⟩) (clock + 1)), es.toList.map (·.key) ++ [x], ?_, ⟨_, _, hbl _ _, by simp, ?_⟩, hgr _ _, ?_, ?_⟩
    · simp [Instr.mapUpdate, run_underlying ht, MapKept.run_getObj_map hb, O.check w _ _ hx, hf, MapKept.run_setObj_map _ (hbd n), Result.andThen, setBlock]
    · intro e1 he1
      simp only [Array.toList_push, List.mem_append, List.mem_singleton] at he1
      rcases he1 with he1 | rfl
      · exact hv e1 he1
      · rfl
    · intro y hy
      simpa [or_comm] using hy
    · intro _ _ y hy
      simpa using hy
  · have hm := List.mem_of_getElem? hj
    have hj' : es[j]? = some e0 := by simpa using hj
    obtain ⟨v, n', hst, hvv⟩ := stays_any (w.drewN n) e0.key x
    have hjl : j < es.toList.length := (List.getElem?_eq_some_iff.1 hj).1
    have hlist : (es.modify j (fun e' => { e' with key := v, val := .agg #[] })).toList = es.toList.set j { e0 with key := v, val := .agg #[] } := by rw [Array.toList_modify, ChangeMaps.modify_eq_set _ _ _ _ hj]
    refine ⟨setBlock (w.drewN (n + n')) b (.map (es.modify j fun e' => { e' with key := v, val := .agg #[] }) clock), (es.toList.map (·.key)).set j v, ?_, ⟨_, _, hbl _ _, by rw [hlist, List.map_set], ?_⟩, hgr _ _, ?_, ?_⟩
    · simp [Instr.mapUpdate, run_underlying ht, MapKept.run_getObj_map hb, O.check w _ _ hx, hf, hj', hst, MapKept.run_setObj_map _ (hbd (n + n')), Result.andThen, setBlock]
    · intro e1 he1
      rw [hlist] at he1
      rcases List.mem_or_eq_of_mem_set he1 with h | rfl
      · exact hv e1 h
      · rfl
    · intro y hy
      rcases List.mem_or_eq_of_mem_set hy with h | rfl
      · exact .inl h
      · rcases hvv with rfl | rfl
        · exact .inr rfl
        · exact .inl (List.mem_map.2 ⟨e0, hm, rfl⟩)
    · intro p1 p2 y hy
      have hk : e0.key = x := hp p1 fun e1 he1 => p2 _ (List.mem_map.2 ⟨e1, he1, rfl⟩)
      have hvx : v = x := by rcases hvv with h | h <;> simp [h, hk]
      subst hvx
      have hid : (es.toList.map (·.key)).set j v = es.toList.map (·.key) := by
        apply List.ext_getElem?
        intro i
        rw [List.getElem?_set]
        split
        · rename_i hij
          subst hij
          simp [hj, hk]
          simpa using hjl
        · rfl
      rw [hid]
      rcases hy with h | rfl
      · exact h
      · exact List.mem_map.2 ⟨e0, hm, hk⟩

/-- A look-up, at the operation. -/
theorem wpList_set_look {ops : Array Oper} {rest : List Oper} {o : Oper} {a : Act} {Q : Exit → Act → World → Prop} (hg : o.guard = none) (m x : Operand) (t : TypeId) (hop : o.op = Op.lookup t m x true)
    (O : KeyOK K G P) (ht : Tryd.prog.underlying t = some (.map K e)) (hz : (zeroValue e).run Tryd.prog = fun w => .ok (.agg #[]) w) (b : Nat) (vs : List Value)
    (hm : a.eval m = .map (some b)) (h : SetAt w b vs) (key : Value) (hx : a.eval x = key) (hkey : G w key) (hvs : ∀ y ∈ vs, G w y)
    (hK : ∀ r n, (r = false → key ∉ vs) → (r = true → ∃ y ∈ vs, P w key → (∀ z ∈ vs, P w z) → y = key) → wpList Tryd.prog ops Q rest (a.put o.dst (.tuple #[.agg #[], .bool r])) (w.drewN n)) :
    wpList Tryd.prog ops Q (o :: rest) a w := by
  refine wpList_plain hg fun K' hK' => ?_
  obtain ⟨r, n, hrun, h1, h2⟩ := set_look O ht hz h hkey hvs
  unfold Oper.wp
  simp [execOp, hop, hm, hx, hrun, Result.andThen]
  exact hK' _ _ (hK r n h1 h2)

/-- A store, at the operation. -/
theorem wpList_set_store {ops : Array Oper} {rest : List Oper} {o : Oper} {a : Act} {Q : Exit → Act → World → Prop} (hg : o.guard = none) (m x v : Operand) (t : TypeId) (hop : o.op = Op.mapUpdate t m x v)
    (O : KeyOK K G P) (ht : Tryd.prog.underlying t = some (.map K e)) (b : Nat) (vs : List Value)
    (hm : a.eval m = .map (some b)) (h : SetAt w b vs) (key : Value) (hx : a.eval x = key) (hv : a.eval v = .agg #[]) (hkey : G w key) (hvs : ∀ y ∈ vs, G w y)
    (hK : ∀ w' vs', SetAt w' b vs' → w.grownBy w' (some b) → (∀ y ∈ vs', y ∈ vs ∨ y = key) → (P w key → (∀ z ∈ vs, P w z) → ∀ y, y ∈ vs ∨ y = key → y ∈ vs') → wpList Tryd.prog ops Q rest (a.put o.dst undef) w') :
    wpList Tryd.prog ops Q (o :: rest) a w := by
  refine wpList_plain hg fun K' hK' => ?_
  obtain ⟨w', vs', hrun, h1, h2, h3, h4⟩ := set_store O ht h hkey hvs
  unfold Oper.wp
  simp [execOp, hop, hm, hx, hv, hrun, Result.andThen]
  exact hK' _ _ (hK w' vs' h1 h2 h3 h4)
end

def GoodK (w : World) (v : Value) : Prop := ∃ a m, v = keyV a m ∧ GoodA w a
def PlainK (w : World) (v : Value) : Prop := ∃ a m, v = keyV a m ∧ PlainA w a
def GoodK2 (w : World) (v : Value) : Prop := ∃ a m b l, v = key2V a m b l ∧ GoodA w a ∧ GoodA w b
def PlainK2 (w : World) (v : Value) : Prop := ∃ a m b l, v = key2V a m b l ∧ PlainA w a ∧ PlainA w b

theorem keyV_inj {a b : Addr} {m l : Nat} (h : keyV a m = keyV b l) : a = b ∧ m = l := by
  unfold keyV at h
  simp at h
  exact ⟨h.1, by omega⟩
theorem key2V_inj {a b a' b' : Addr} {m l m' l' : Nat} (h : key2V a m b l = key2V a' m' b' l') : a = a' ∧ m = m' ∧ b = b' ∧ l = l' := by
  unfold key2V at h
  simp at h
  exact ⟨h.1, by omega, h.2.2.1, by omega⟩

theorem PlainA.drew {w : World} {a : Addr} (n : Nat) (h : PlainA w a) : PlainA (w.drewN n) a := h
theorem GoodA.drew {w : World} {a : Addr} (n : Nat) (h : GoodA w a) : GoodA (w.drewN n) a := h

/-- Keys of one list. -/
theorem key_ok : KeyOK 58 GoodK PlainK where
  eq w x y hx hy := by
    obtain ⟨a, m, rfl, ha⟩ := hx
    obtain ⟨b, l, rfl, hb⟩ := hy
    obtain ⟨r, n, h, h1, h2⟩ := run_eq_key 9998 (m := m) (l := l) ha hb
    refine ⟨r, n, h, fun e => h1 (keyV_inj e), fun p1 p2 e => ?_⟩
    obtain ⟨a', m', e1, p1⟩ := p1
    obtain ⟨b', l', e2, p2⟩ := p2
    obtain ⟨rfl, rfl⟩ := keyV_inj e1
    obtain ⟨rfl, rfl⟩ := keyV_inj e2
    obtain ⟨rfl, rfl⟩ := h2 p1 p2 e
    rfl
  check w em x hx := by
    obtain ⟨a, m, rfl, ha⟩ := hx
    kernel_rfl
  drew w n x hx := hx
  drewP w n x hx := hx
  now w x y hx := by
    obtain ⟨a, m, rfl, ha⟩ := hx
    exact ⟨_, Tryd.underlying58, rfl⟩

/-- Keys of two lists. -/
theorem key2_ok : KeyOK 60 GoodK2 PlainK2 where
  eq w x y hx hy := by
    obtain ⟨a, m, b, l, rfl, ha, hb⟩ := hx
    obtain ⟨a', m', b', l', rfl, ha', hb'⟩ := hy
    obtain ⟨r, n, h, h1, h2, h3⟩ := run_eq_key2 9997 (m := m) (l := l) (m' := m') (l' := l') ha hb ha' hb'
    refine ⟨r, n, h, fun e => h1 (key2V_inj e), fun p1 p2 e => ?_⟩
    obtain ⟨c, q, d, s, e1, p1, p1'⟩ := p1
    obtain ⟨c', q', d', s', e2, p2, p2'⟩ := p2
    obtain ⟨rfl, rfl, rfl, rfl⟩ := key2V_inj e1
    obtain ⟨rfl, rfl, rfl, rfl⟩ := key2V_inj e2
    obtain ⟨rfl, rfl⟩ := h2 p1 p2 e
    obtain ⟨rfl, rfl⟩ := h3 p1' p2' e
    rfl
  check w em x hx := by
    obtain ⟨a, m, b, l, rfl, ha, hb⟩ := hx
    kernel_rfl
  drew w n x hx := hx
  drewP w n x hx := hx
  now w x y hx := by
    obtain ⟨a, m, b, l, rfl, ha, hb⟩ := hx
    exact ⟨_, Tryd.underlying60, rfl⟩
end Go.Proofs.YtmpcjcjacpjilaaDoor
