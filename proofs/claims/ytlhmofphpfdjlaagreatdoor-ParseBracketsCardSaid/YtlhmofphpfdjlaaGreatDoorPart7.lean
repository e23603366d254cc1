/- Part. -/
import Derived.Maps.AppendAt
import Derived.Test.YtlhmofphpfdjlaaGreatDoorPart6
set_option maxRecDepth 100000
set_option maxHeartbeats 4000000
/- A set whose keys bear addresses: a look-up and a store, at the operation. -/
namespace Go.Proofs.YtlhmofphpfdjlaaGreatDoor
open Go.Proofs.Tryz
open Go.RowKit Go.MapKept
open Go.ChangeMaps (setBlock)
/-- What is asked of a key's type: how two keys are held against one another. -/
structure KeyOK (K : TypeId) (G P : World -> Value -> Prop) : Prop where
  eq : ∀ w x y, G w x -> G w y -> ∃ r n, (Op.equal K x y).run prog w = .ok r (w.drewN n) /\ (x = y -> r = true) /\ (P w x -> P w y -> (r = true -> x = y))
  check : ∀ w em x, G w x -> (Instr.checkKey em 10000 K x).run prog w = .ok () w
  drew : ∀ w n x, G w x -> G (w.drewN n) x
  drewP : ∀ w n x, P w x -> P (w.drewN n) x
  now : ∀ w x y, G w x -> ∃ d, prog.underlying K = some d /\ Instr.sameNow d x y = none
section
variable {K : TypeId} {G P : World -> Value -> Prop}
theorem find_asking (O : KeyOK K G P) : ∀ (es : List MapEntry) (i : Nat) (w : World) (x : Value), G w x -> (∀ e ∈ es, G w e.key) ->
    ∃ n r, (Instr.findAsking K x es i).run prog w = .ok r (w.drewN n) /\
      ((r = none /\ ∀ e ∈ es, e.key ≠ x) ∨ ∃ j e, r = some (i + j, e.val) /\ es[j]? = some e /\ (P w x -> (∀ e ∈ es, P w e.key) -> e.key = x))
  | [], i, w, x, _, _ => ⟨0, none, by simp [Instr.findAsking]; rfl, .inl ⟨rfl, by simp⟩⟩
  | e :: es, i, w, x, hx, hes => by
    obtain ⟨r, n, h, h1, h2⟩ := O.eq w x e.key hx (hes e (by simp))
    cases r
    · obtain ⟨n', r', h', hr⟩ := find_asking O es (i + 1) (w.drewN n) x (O.drew w n x hx) (fun e' he' => O.drew w n _ (hes e' (by simp [he'])))
      refine ⟨n + n', r', by simp [Instr.findAsking, h, h'], ?_⟩
      rcases hr with ⟨rfl, hn⟩ | ⟨j, e', rfl, hj, hp⟩
      · refine .inl ⟨rfl, fun e' he' => ?_⟩
        rcases List.mem_cons.1 he' with rfl | he'
        · exact fun e2 => absurd (h1 e2.symm) (by decide)
        · exact hn e' he'
      · exact .inr ⟨j + 1, e', by rw [Nat.add_assoc, Nat.add_comm 1 j], by simpa using hj, fun p1 p2 => hp (O.drewP w n x p1) fun e2 he2 => O.drewP w n _ (p2 e2 (by simp [he2]))⟩
    · exact ⟨n, some (i, e.val), by simp [Instr.findAsking, h], .inr ⟨0, e, by simp, by simp, fun p1 p2 => (h2 p1 (p2 e (by simp)) rfl).symm⟩⟩
theorem find_key (O : KeyOK K G P) (es : List MapEntry) (w : World) (x : Value) (hx : G w x) (hes : ∀ e ∈ es, G w e.key) :
    ∃ n r, (Instr.findKey K x es).run prog w = .ok r (w.drewN n) /\
      ((r = none /\ ∀ e ∈ es, e.key ≠ x) ∨ ∃ j e, r = some (j, e.val) /\ es[j]? = some e /\ (P w x -> (∀ e ∈ es, P w e.key) -> e.key = x)) := by
  cases es with
  | nil =>
    obtain ⟨d, hd, _⟩ := O.now w x x hx
    exact ⟨0, none, by simp [Instr.findKey, run_underlying hd, Instr.findNow]; rfl, .inl ⟨rfl, by simp⟩⟩
  | cons e es =>
    obtain ⟨d, hd, hs⟩ := O.now w x e.key hx
    obtain ⟨n, r, h, hr⟩ := find_asking O (e :: es) 0 w x hx hes
    refine ⟨n, r, by simp [Instr.findKey, run_underlying hd, Instr.findNow, hs, h], ?_⟩
    rcases hr with hr | ⟨j, e', h1, h2, h3⟩
    · exact .inl hr
    · exact .inr ⟨j, e', by simpa using h1, h2, h3⟩
/-- Block b is a set of these keys. -/
def SetAt (w : World) (b : Nat) (vs : List Value) : Prop := ∃ es clock, w.heap[b]? = some (.map es clock) /\ es.toList.map (·.key) = vs /\ ∀ e ∈ es.toList, e.val = .agg #[]
theorem set_made (w : World) : SetAt (w.alloc (.map #[] 0)) w.heap.size [] := ⟨#[], 0, heap_alloc_last w _, rfl, by simp⟩
theorem set_block {w w' : World} {b : Nat} {vs : List Value} (h : SetAt w b vs) (hb : w'.heap[b]? = w.heap[b]?) : SetAt w' b vs := by
  obtain ⟨es, clock, h1, h2⟩ := h
  exact ⟨es, clock, hb.trans h1, h2⟩
theorem set_lt {w : World} {b : Nat} {vs : List Value} (h : SetAt w b vs) : b < w.heap.size := by
  obtain ⟨es, clock, h1, _⟩ := h
  exact lt_of_block h1
variable {w : World} {b : Nat} {vs : List Value} {t e : TypeId}
theorem set_look (O : KeyOK K G P) (ht : prog.underlying t = some (.map K e)) (hz : (zeroValue e).run prog = fun w => .ok (.agg #[]) w) (h : SetAt w b vs) {x : Value} (hx : G w x) (hvs : ∀ y ∈ vs, G w y) :
    ∃ r n, (Instr.lookup t (.map (some b)) x true).run prog w = .ok (.tuple #[.agg #[], .bool r]) (w.drewN n) /\ (r = false -> x ∉ vs) /\ (r = true -> ∃ y ∈ vs, P w x -> (∀ z ∈ vs, P w z) -> y = x) := by
  obtain ⟨es, clock, hb, rfl, hv⟩ := h
  have hg : ∀ e ∈ es.toList, G w e.key := fun e he => hvs _ (List.mem_map.2 ⟨e, he, rfl⟩)
  obtain ⟨n, r, hf, hr⟩ := find_key O es.toList w x hx hg
  rcases hr with ⟨rfl, hn⟩ | ⟨j, e0, rfl, hj, hp⟩
  · refine ⟨false, n, ?_, fun _ hm => ?_, fun h => by cases h⟩
    · simp [Instr.lookup, run_underlying ht, MapKept.run_getObj_map hb, O.check w _ _ hx, hf, hz, Result.andThen]
    · obtain ⟨e1, he1, h2⟩ := List.mem_map.1 hm
      exact hn e1 he1 h2
  · have hm := List.mem_of_getElem? hj
    refine ⟨true, n, ?_, fun h => (by cases h), fun _ => ⟨e0.key, List.mem_map.2 ⟨e0, hm, rfl⟩, fun p1 p2 => hp p1 fun e1 he1 => p2 _ (List.mem_map.2 ⟨e1, he1, rfl⟩)⟩⟩
    simp [Instr.lookup, run_underlying ht, MapKept.run_getObj_map hb, O.check w _ _ hx, hf, hv e0 hm, Result.andThen]
theorem stays_any (w : World) (old new : Value) : ∃ v n, (Instr.keyThatStays old new).run prog w = .ok v (w.drewN n) /\ (v = new ∨ v = old) := by
  generalize hR : (Instr.keyThatStays old new).run prog w = R
  simp [Instr.keyThatStays] at hR
  repeat' split at hR
  all_goals first | exact ⟨_, 0, hR.symm, .inl rfl⟩ | exact ⟨_, 1, hR.symm, .inl rfl⟩ | exact ⟨_, 0, hR.symm, .inr rfl⟩ | exact ⟨_, 1, hR.symm, .inr rfl⟩
theorem set_store (O : KeyOK K G P) (ht : prog.underlying t = some (.map K e)) (h : SetAt w b vs) {x : Value} (hx : G w x) (hvs : ∀ y ∈ vs, G w y) :
    ∃ w' vs', (Instr.mapUpdate t (.map (some b)) x (.agg #[])).run prog w = .ok () w' /\ SetAt w' b vs' /\ w.grownBy w' (some b) /\ (∀ y ∈ vs', y ∈ vs ∨ y = x) /\ (P w x -> (∀ z ∈ vs, P w z) -> ∀ y, y ∈ vs ∨ y = x -> y ∈ vs') := by
  obtain ⟨es, clock, hb, rfl, hv⟩ := h
  have hg : ∀ e ∈ es.toList, G w e.key := fun e he => hvs _ (List.mem_map.2 ⟨e, he, rfl⟩)
  obtain ⟨n, r, hf, hr⟩ := find_key O es.toList w x hx hg
  have hbl : ∀ m o, (setBlock (w.drewN m) b o).heap[b]? = some o := fun m o => by
    have hlt := lt_of_block hb
    simp [setBlock, hlt]
  have hgr : ∀ m o, w.grownBy (setBlock (w.drewN m) b o) (some b) := fun m o => ⟨rfl, rfl, rfl, by simp [setBlock], fun i _ hi => by
    have : b ≠ i := fun e => hi (by rw [e])
    simp [setBlock, this]⟩
  have hbd : ∀ m, (w.drewN m).heap[b]? = some (.map es clock) := fun m => hb
  rcases hr with ⟨rfl, hn⟩ | ⟨j, e0, rfl, hj, hp⟩
  · refine ⟨setBlock (w.drewN n) b (.map (es.push ⟨x, .agg #[], clock⟩) (clock + 1)), es.toList.map (·.key) ++ [x], ?_, ⟨_, _, hbl _ _, by simp, ?_⟩, hgr _ _, ?_, ?_⟩
    · simp [Instr.mapUpdate, run_underlying ht, MapKept.run_getObj_map hb, O.check w _ _ hx, hf, MapKept.run_setObj_map _ (hbd n), Result.andThen, setBlock]
    · intro e1 he1
      simp only [Array.toList_push, List.mem_append, List.mem_singleton] at he1
      rcases he1 with he1 | rfl
      · exact hv e1 he1
      · rfl
    · intro y hy
      simpa [or_comm] using hy
    · intro _ _ y hy
      simpa using hy
  · have hm := List.mem_of_getElem? hj
    have hj' : es[j]? = some e0 := by simpa using hj
    obtain ⟨v, n', hst, hvv⟩ := stays_any (w.drewN n) e0.key x
    have hjl : j < es.toList.length := (List.getElem?_eq_some_iff.1 hj).1
    have hlist : (es.modify j (fun e' => { e' with key := v, val := .agg #[] })).toList = es.toList.set j { e0 with key := v, val := .agg #[] } := by rw [Array.toList_modify, ChangeMaps.modify_eq_set _ _ _ _ hj]
    refine ⟨setBlock (w.drewN (n + n')) b (.map (es.modify j fun e' => { e' with key := v, val := .agg #[] }) clock), (es.toList.map (·.key)).set j v, ?_, ⟨_, _, hbl _ _, by rw [hlist, List.map_set], ?_⟩, hgr _ _, ?_, ?_⟩
    · simp [Instr.mapUpdate, run_underlying ht, MapKept.run_getObj_map hb, O.check w _ _ hx, hf, hj', hst, MapKept.run_setObj_map _ (hbd (n + n')), Result.andThen, setBlock]
    · intro e1 he1
      rw [hlist] at he1
      rcases List.mem_or_eq_of_mem_set he1 with h | rfl
      · exact hv e1 h
      · rfl
    · intro y hy
      rcases List.mem_or_eq_of_mem_set hy with h | rfl
      · exact .inl h
      · rcases hvv with rfl | rfl
        · exact .inr rfl
        · exact .inl (List.mem_map.2 ⟨e0, hm, rfl⟩)
    · intro p1 p2 y hy
      have hk : e0.key = x := hp p1 fun e1 he1 => p2 _ (List.mem_map.2 ⟨e1, he1, rfl⟩)
      have hvx : v = x := by rcases hvv with h | h <;> simp [h, hk]
      subst hvx
      have hid : (es.toList.map (·.key)).set j v = es.toList.map (·.key) := by
        apply List.ext_getElem?
        intro i
        rw [List.getElem?_set]
        split
        · rename_i hij
          subst hij
          simp [hj, hk]
          simpa using hjl
        · rfl
      rw [hid]
      rcases hy with h | rfl
      · exact h
      · exact List.mem_map.2 ⟨e0, hm, hk⟩
/-- A look-up, at the operation. -/
theorem wpList_set_look {ops : Array Oper} {rest : List Oper} {o : Oper} {a : Act} {Q : Exit -> Act -> World -> Prop} (hg : o.guard = none) (m x : Operand) (t : TypeId) (hop : o.op = Op.lookup t m x true)
    (O : KeyOK K G P) (ht : prog.underlying t = some (.map K e)) (hz : (zeroValue e).run prog = fun w => .ok (.agg #[]) w) (b : Nat) (vs : List Value)
    (hm : a.eval m = .map (some b)) (h : SetAt w b vs) (key : Value) (hx : a.eval x = key) (hkey : G w key) (hvs : ∀ y ∈ vs, G w y)
    (hK : ∀ r n, (r = false -> key ∉ vs) -> (r = true -> ∃ y ∈ vs, P w key -> (∀ z ∈ vs, P w z) -> y = key) -> wpList prog ops Q rest (a.put o.dst (.tuple #[.agg #[], .bool r])) (w.drewN n)) :
    wpList prog ops Q (o :: rest) a w := by
  refine wpList_plain hg fun K' hK' => ?_
  obtain ⟨r, n, hrun, h1, h2⟩ := set_look O ht hz h hkey hvs
  unfold Oper.wp
  simp [execOp, hop, hm, hx, hrun, Result.andThen]
  exact hK' _ _ (hK r n h1 h2)
/-- A store, at the operation. -/
theorem wpList_set_store {ops : Array Oper} {rest : List Oper} {o : Oper} {a : Act} {Q : Exit -> Act -> World -> Prop} (hg : o.guard = none) (m x v : Operand) (t : TypeId) (hop : o.op = Op.mapUpdate t m x v)
    (O : KeyOK K G P) (ht : prog.underlying t = some (.map K e)) (b : Nat) (vs : List Value)
    (hm : a.eval m = .map (some b)) (h : SetAt w b vs) (key : Value) (hx : a.eval x = key) (hv : a.eval v = .agg #[]) (hkey : G w key) (hvs : ∀ y ∈ vs, G w y)
    (hK : ∀ w' vs', SetAt w' b vs' -> w.grownBy w' (some b) -> (∀ y ∈ vs', y ∈ vs ∨ y = key) -> (P w key -> (∀ z ∈ vs, P w z) -> ∀ y, y ∈ vs ∨ y = key -> y ∈ vs') -> wpList prog ops Q rest (a.put o.dst undef) w') :
    wpList prog ops Q (o :: rest) a w := by
  refine wpList_plain hg fun K' hK' => ?_
  obtain ⟨w', vs', hrun, h1, h2, h3, h4⟩ := set_store O ht h hkey hvs
  unfold Oper.wp
  simp [execOp, hop, hm, hx, hv, hrun, Result.andThen]
  exact hK' _ _ (hK w' vs' h1 h2 h3 h4)
end
def GoodK (w : World) (v : Value) : Prop := ∃ a m, v = keyV a m /\ GoodA w a
def PlainK (w : World) (v : Value) : Prop := ∃ a m, v = keyV a m /\ PlainA w a
def GoodK2 (w : World) (v : Value) : Prop := ∃ a m b l, v = key2V a m b l /\ GoodA w a /\ GoodA w b
def PlainK2 (w : World) (v : Value) : Prop := ∃ a m b l, v = key2V a m b l /\ PlainA w a /\ PlainA w b
theorem keyV_inj {a b : Addr} {m l : Nat} (h : keyV a m = keyV b l) : a = b /\ m = l := by
  unfold keyV at h
  simp at h
  exact ⟨h.1, by omega⟩
theorem key2V_inj {a b a' b' : Addr} {m l m' l' : Nat} (h : key2V a m b l = key2V a' m' b' l') : a = a' /\ m = m' /\ b = b' /\ l = l' := by
  unfold key2V at h
  simp at h
  exact ⟨h.1, by omega, h.2.2.1, by omega⟩
theorem PlainA.drew {w : World} {a : Addr} (n : Nat) (h : PlainA w a) : PlainA (w.drewN n) a := h
theorem GoodA.drew {w : World} {a : Addr} (n : Nat) (h : GoodA w a) : GoodA (w.drewN n) a := h
end Go.Proofs.YtlhmofphpfdjlaaGreatDoor
/- Levels: lists of types that lie in memory, and the lists within them; what a round of types.nextLevel keeps. -/
namespace Go.Proofs.YtlhmofphpfdjlaaGreatDoor
open Go.Proofs.Tryz
open Go.RowKit
def keyOfV : Value -> Value
  | .slice (some a) l _ => keyV a l
  | v => v
/-- A list of types, at least one. -/
def LstAt (w : World) (u : Bool) (n : Nat) (x : Value) (ks : List Ty) : Prop :=
  ∃ b o c, x = .slice (some ⟨b, o, none⟩) ks.length c /\ ks ≠ [] /\ ks.length <= reachBytes /\ KidsAt w u n (some ⟨b, o, none⟩) ks
def totL (n : Nat) (ps : List (Value × List Ty)) : Nat := (ps.map fun p => (p.2.map (sizeT n)).sum).sum
/-- Values one behind the other. -/
def RowAt (w : World) (a : Option Addr) (vs : List Value) : Prop := vs = [] ∨ ∃ b o, a = some ⟨b, o, none⟩ /\ b < w.heap.size /\ ∀ i (h : i < vs.length), w.cell? ⟨b, o + i, none⟩ = some vs[i]
theorem row_of_owns {w : World} {base e n : Nat} {v : Value} {vs : List Value} (h : w.ownsRow base e 1 v n vs) : ∃ a c, v = .slice a vs.length c /\ RowAt w a vs /\ vs.length = n := by
  have hl := h.1
  rw [Nat.mul_one] at hl
  rcases h.2 with ⟨rfl, h0⟩ | ⟨g, cap, cur, rfl, hg, hh, _⟩
  · subst h0
    exact ⟨none, 0, by rw [hl], .inl (List.length_eq_zero_iff.1 hl), hl⟩
  · refine ⟨some ⟨g, 0, none⟩, cap, by rw [hl], .inr ⟨g, 0, rfl, lt_of_block hh, fun i hi => ?_⟩, hl⟩
    have := h.cells (g := g) rfl i vs[i] (by simp [hi])
    have hadd : (⟨g, 0, none⟩ : Addr).add i = ⟨g, 0 + i, none⟩ := by unfold Addr.add; split <;> simp_all
    rw [hadd] at this
    exact this
theorem cells_of_cell {w : World} {b o : Nat} {v : Value} (h : w.cell? ⟨b, o, none⟩ = some v) : ∃ cs t fr, w.heap[b]? = some (.cells cs t fr) := by
  unfold World.cell? at h
  split at h
  · rename_i cs t fr hh
    exact ⟨cs, t, fr, hh⟩
  · cases h
theorem LstAt.good {w : World} {u : Bool} {n : Nat} {x : Value} {ks : List Ty} (h : LstAt w u n x ks) : ∃ b o c, x = .slice (some ⟨b, o, none⟩) ks.length c /\ b < w.heap.size /\ GoodA w ⟨b, o, none⟩ /\ (u = true -> PlainA w ⟨b, o, none⟩) /\ ks ≠ [] /\ ks.length <= reachBytes := by
  obtain ⟨b, o, c, rfl, hne, hl, hk⟩ := h
  rcases hk with hk | ⟨b', o', e, hlt, hf, hcl, hc⟩
  · exact absurd hk hne
  · injection e with e
    injection e with e1 e2
    subst e1 e2
    obtain ⟨c0, _, _, _, h0, _⟩ := hc 0 (List.length_pos_iff.2 hne)
    obtain ⟨cs, t, fr, hh⟩ := cells_of_cell h0
    exact ⟨b, o, c, rfl, hlt, ⟨cs, t, fr, hh, hf⟩, fun hu => hcl hu, hne, hl⟩
/-- One place and one length are one list. -/
theorem lst_det {w : World} {u u' : Bool} {n m : Nat} {x x' : Value} {ks ks' : List Ty} (h : LstAt w u n x ks) (h' : LstAt w u' m x' ks') (he : keyOfV x = keyOfV x') : ks = ks' := by
  obtain ⟨b, o, c, rfl, _, _, hk⟩ := h
  obtain ⟨b', o', c', rfl, _, _, hk'⟩ := h'
  obtain ⟨e1, e2⟩ := keyV_inj he
  injection e1 with e3 e4
  subst e3 e4
  exact kids_det hk hk' e2
theorem lst_below {w w' : World} {u : Bool} {n : Nat} {x : Value} {ks : List Ty} (h : LstAt w u n x ks) (hb : Below w.heap.size w w') : LstAt w' u n x ks := by
  obtain ⟨b, o, c, h1, h2, h3, h4⟩ := h
  exact ⟨b, o, c, h1, h2, h3, kids_below h4 hb⟩
/-- What a round keeps. -/
structure Lev (w0 wr : World) (u : Bool) (n : Nat) (v : Value) (done : List Ty) (ps : List (Value × List Ty)) (vs : List Value) : Prop where
  bl : Below w0.heap.size w0 wr
  st : SetAt wr w0.heap.size vs
  ow : wr.ownsRow (w0.heap.size + 1) 23 1 v ps.length (ps.map (·.1))
  ls : ∀ p ∈ ps, LstAt w0 u n p.1 p.2
  ky : ∀ y ∈ vs, ∃ p ∈ ps, y = keyOfV p.1
  fr : ∀ p ∈ ps, ∃ D ∈ done, p.2 = kidsT D
  tt : totL n ps <= (done.map (sizeT (n + 1))).sum
  al : u = true -> ∀ D ∈ done, kidsT D ≠ [] -> ∃ p ∈ ps, p.2 = kidsT D
section
variable {w0 wr wr' : World} {u : Bool} {n : Nat} {v : Value} {done : List Ty} {ps : List (Value × List Ty)} {vs : List Value}
theorem Lev.sz (h : Lev w0 wr u n v done ps vs) : w0.heap.size < wr.heap.size := set_lt h.st
theorem Lev.grow (h : Lev w0 wr u n v done ps vs) (hg : wr.grownBy wr' none) : Lev w0 wr' u n v done ps vs where
  bl := h.bl.grown hg h.bl.size (fun k hk => by cases hk)
  st := set_block h.st (hg.block _ h.sz (by simp))
  ow := h.ow.kept hg (by cases h1 : v.ownBlock <;> simp)
  ls := h.ls
  ky := h.ky
  fr := h.fr
  tt := h.tt
  al := h.al
theorem grown_drewN (w : World) (m : Nat) (row : Option Nat) : w.grownBy (w.drewN m) row := ⟨rfl, rfl, rfl, Nat.le_refl _, fun _ _ _ => rfl⟩
theorem Lev.goodK (h : Lev w0 wr u n v done ps vs) : ∀ y ∈ vs, GoodK wr y := by
  intro y hy
  obtain ⟨p, hp, rfl⟩ := h.ky y hy
  obtain ⟨b, o, c, e, _, hg, _⟩ := (h.ls p hp).good
  rw [e]
  exact ⟨_, _, rfl, hg.below h.bl⟩
theorem Lev.plainK (h : Lev w0 wr u n v done ps vs) (hu : u = true) : ∀ y ∈ vs, PlainK wr y := by
  intro y hy
  obtain ⟨p, hp, rfl⟩ := h.ky y hy
  obtain ⟨b, o, c, e, _, _, hg, _⟩ := (h.ls p hp).good
  rw [e]
  exact ⟨_, _, rfl, clean_below (hg hu) h.bl⟩
theorem size_pos {n : Nat} {D : Ty} : 1 <= sizeT (n + 1) D := by rw [sizeT]; omega
theorem Lev.skip (h : Lev w0 wr u n v done ps vs) {D : Ty} (hD : kidsT D = []) : Lev w0 wr u n v (done ++ [D]) ps vs where
  bl := h.bl
  st := h.st
  ow := h.ow
  ls := h.ls
  ky := h.ky
  fr p hp := by
    obtain ⟨E, hE, h2⟩ := h.fr p hp
    exact ⟨E, by simp [hE], h2⟩
  tt := by
    have := h.tt
    simp
    omega
  al hu E hE hne := by
    rcases List.mem_append.1 hE with hE | hE
    · exact h.al hu E hE hne
    · rw [List.mem_singleton.1 hE] at hne
      exact absurd hD hne
theorem Lev.had (h : Lev w0 wr u n v done ps vs) {D : Ty} {x : Value} (hx : LstAt w0 u n x (kidsT D)) (hf : ∃ y ∈ vs, PlainK wr (keyOfV x) -> (∀ z ∈ vs, PlainK wr z) -> y = keyOfV x) : Lev w0 wr u n v (done ++ [D]) ps vs where
  bl := h.bl
  st := h.st
  ow := h.ow
  ls := h.ls
  ky := h.ky
  fr p hp := by
    obtain ⟨E, hE, h2⟩ := h.fr p hp
    exact ⟨E, by simp [hE], h2⟩
  tt := by
    have := h.tt
    simp
    omega
  al hu E hE hne := by
    rcases List.mem_append.1 hE with hE | hE
    · exact h.al hu E hE hne
    · rw [List.mem_singleton.1 hE]
      obtain ⟨y, hy, hp⟩ := hf
      obtain ⟨b, o, c, e, _, _, hg, _⟩ := hx.good
      have hyx := hp (by rw [e]; exact ⟨_, _, rfl, clean_below (hg hu) h.bl⟩) (h.plainK hu)
      obtain ⟨p, hpm, he⟩ := h.ky y hy
      exact ⟨p, hpm, lst_det (h.ls p hpm) hx (he.symm.trans hyx)⟩
/-- One more: the set first, then the list. -/
theorem Lev.add {w1 w2 : World} {vs' : List Value} {v' : Value} (h : Lev w0 wr u n v done ps vs) {D : Ty} {x : Value} (hx : LstAt w0 u n x (kidsT D)) (hs : SetAt w1 w0.heap.size vs') (hg : wr.grownBy w1 (some w0.heap.size))
    (hsub : ∀ y ∈ vs', y ∈ vs ∨ y = keyOfV x) {o : Obj} (ho : w2.ownsRow (w0.heap.size + 1) 23 1 v' (ps.length + 1) (ps.map (·.1) ++ [x])) (hg2 : (w1.alloc o).grownBy w2 v.ownBlock) :
    Lev w0 w2 u n v' (done ++ [D]) (ps ++ [(x, kidsT D)]) vs' := by
  have hsz := h.sz
  have hlow : ∀ i, i <= w0.heap.size -> w2.heap[i]? = w1.heap[i]? := fun i hi => by
    have h1 : i < w1.heap.size := Nat.lt_of_le_of_lt hi (Nat.lt_of_lt_of_le hsz hg.size)
    rw [hg2.block i (by simp; omega) (fun e => by have := (h.ow.lt i e.symm).1; omega), Below.heap_alloc _ _ _ h1]
  refine ⟨⟨?_, ?_, ?_, ?_, ?_⟩, ?_, ?_, ?_, ?_, ?_, ?_, ?_⟩
  · rw [hg2.os]; exact hg.os.trans h.bl.os
  · rw [hg2.tape]; exact hg.tape.trans h.bl.tape
  · rw [hg2.output]; exact hg.output.trans h.bl.output
  · have h1 := hg2.size
    have h2 := hg.size
    simp at h1
    omega
  · intro k hk
    rw [hlow k (by omega), hg.block k (by omega) (fun e => by injection e with e; omega)]
    exact h.bl.block k hk
  · exact set_block hs (hlow _ (Nat.le_refl _))
  · simpa using ho
  · intro p hp
    rcases List.mem_append.1 hp with hp | hp
    · exact h.ls p hp
    · rw [List.mem_singleton.1 hp]
      exact hx
  · intro y hy
    rcases hsub y hy with hy | rfl
    · obtain ⟨p, hp, e⟩ := h.ky y hy
      exact ⟨p, by simp [hp], e⟩
    · exact ⟨(x, kidsT D), by simp, rfl⟩
  · intro p hp
    rcases List.mem_append.1 hp with hp | hp
    · obtain ⟨E, hE, h2⟩ := h.fr p hp
      exact ⟨E, by simp [hE], h2⟩
    · rw [List.mem_singleton.1 hp]
      exact ⟨D, by simp, rfl⟩
  · have := h.tt
    unfold totL at this ⊢
    simp only [List.map_append, List.sum_append, List.map_cons, List.map_nil, List.sum_cons, List.sum_nil]
    rw [show sizeT (n + 1) D = 1 + ((kidsT D).map (sizeT n)).sum from rfl]
    omega
  · intro hu E hE hne
    rcases List.mem_append.1 hE with hE | hE
    · obtain ⟨p, hp, e⟩ := h.al hu E hE hne
      exact ⟨p, by simp [hp], e⟩
    · rw [List.mem_singleton.1 hE]
      exact ⟨(x, kidsT D), by simp, rfl⟩
theorem tot_len {w : World} : ∀ {ps : List (Value × List Ty)}, (∀ p ∈ ps, LstAt w u n p.1 p.2) -> ps.length <= totL n ps
  | [], _ => Nat.zero_le _
  | p :: ps, h => by
    have ih := tot_len (ps := ps) fun q hq => h q (by simp [hq])
    unfold totL at ih ⊢
    obtain ⟨b, o, c, _, hne, _, hk⟩ := h p (by simp)
    have h1 : 1 <= (p.2.map (sizeT n)).sum := by
      rcases hk with hk | ⟨_, _, _, _, _, _, hc⟩
      · exact absurd hk hne
      · obtain ⟨_, _, _, _, _, _, _, _, ht⟩ := hc 0 (List.length_pos_iff.2 hne)
        obtain ⟨m, rfl⟩ : ∃ m, n = m + 1 := by
          cases n with
          | zero => exact ht.elim
          | succ m => exact ⟨m, rfl⟩
        obtain ⟨D, ks, e⟩ := List.exists_cons_of_ne_nil hne
        rw [e, List.map_cons, List.sum_cons]
        have := size_pos (n := m) (D := D)
        omega
    simp only [List.map_cons, List.sum_cons, List.length_cons]
    omega
end
end Go.Proofs.YtlhmofphpfdjlaaGreatDoor
/- types.listOf, types.nextLevel, types.Height by contracts. -/
namespace Go.Proofs.YtlhmofphpfdjlaaGreatDoor
open Go.Proofs.Tryz
open Go.RowKit
theorem unit_zero : (zeroValue 137).run prog = fun w => .ok (.agg #[]) w := by funext w; kernel_rfl
theorem info_lst : (prog.info? 23).map (fun i => (i.zero, i.size, i.bytes)) = some (some (.slice none 0 0), 1, 24) := by kernel_rfl
theorem flat_take (Ls : List (List Ty)) (i : Nat) (hi : i < Ls.length) : (Ls.take (i + 1)).flatten = (Ls.take i).flatten ++ Ls[i] := by
  rw [List.take_succ_eq_append_getElem hi, List.flatten_append]
  simp
theorem sum_flat (f : Ty -> Nat) : ∀ (Ls : List (List Ty)), (Ls.flatten.map f).sum = (Ls.map fun L => (L.map f).sum).sum
  | [] => rfl
  | L :: Ls => by rw [List.flatten_cons, List.map_append, List.sum_append, sum_flat f Ls]; simp
theorem box_up {w wr : World} {k : Int} {nm : ByteArray} {na : Option Addr} {nl nc : Nat} {ka : Option Addr} {kl kc nd : Nat} (o1 o2 : Obj) (hsz : w.heap.size < wr.heap.size) :
    ∀ w3, (((((wr.alloc (tyO k nm na nl nc ka kl kc)).alloc o1).drewN nd).alloc o2).alloc o1).grownBy w3 (some w.heap.size) -> w3.cell? ⟨wr.heap.size, 3, none⟩ = some (.slice ka kl kc) := by
  intro w3 hg
  have h0 : (((((wr.alloc (tyO k nm na nl nc ka kl kc)).alloc o1).drewN nd).alloc o2).alloc o1).heap[wr.heap.size]? = some (tyO k nm na nl nc ka kl kc) := by
    rw [Below.heap_alloc _ _ _ (by simp; omega), Below.heap_alloc _ _ _ (by simp; omega), World.heap_drewN, Below.heap_alloc _ _ _ (by simp)]
    exact heap_alloc_last wr _
  have h1 := (hg.block wr.heap.size (lt_of_block h0) (fun e => by injection e with e; omega)).trans h0
  rw [cell_of_row _ _ _ _ _ _ h1]
  rfl
theorem own_up {w0 wr w1 : World} {u : Bool} {n : Nat} {v : Value} {done : List Ty} {ps : List (Value × List Ty)} {vs : List Value} (h : Lev w0 wr u n v done ps vs) (hg : wr.grownBy w1 (some w0.heap.size)) : w1.ownsRow (w0.heap.size + 1) 23 1 v ps.length (ps.map (·.1)) :=
  h.ow.kept hg (.inr fun e => by have := (h.ow.lt _ e).1; omega)
theorem one_new (W : World) (x : Value) (t : TypeId) : ∀ j u, ([x] : List Value)[j]? = some u -> (W.alloc (.cells #[x] t)).cell? ((⟨W.heap.size, 0, none⟩ : Addr).add j) = some u := by
  intro j u hj
  cases j with
  | zero =>
    have hadd : (⟨W.heap.size, 0, none⟩ : Addr).add 0 = ⟨W.heap.size, 0, none⟩ := by simp [Addr.add]
    rw [hadd, cell_of_row _ _ 0 _ t (0, 0) (heap_alloc_last W _)]
    simpa using hj
  | succ j => simp at hj
theorem sum_take_le (l : List Nat) (k : Nat) : (l.take k).sum <= l.sum := by
  have := List.take_append_drop k l
  conv => rhs; rw [<- this, List.sum_append]
  omega
theorem done_le {n : Nat} (qs : List (Value × List Ty)) (j k : Nat) (hj : j < qs.length) : ((((qs.map (·.2)).take j).flatten ++ (qs[j].2).take k).map (sizeT n)).sum <= totL n qs := by
  have h1 : ((((qs.map (·.2)).take j).flatten ++ (qs[j].2).take k).map (sizeT n)).sum <= (((qs.map (·.2)).take (j + 1)).flatten.map (sizeT n)).sum := by
    rw [flat_take _ _ (by simpa using hj), List.getElem_map, List.map_append, List.map_append, List.sum_append, List.sum_append, List.map_take]
    have := sum_take_le ((qs[j].2).map (sizeT n)) k
    omega
  refine Nat.le_trans h1 ?_
  rw [sum_flat, List.map_take, List.map_map]
  exact sum_take_le _ _
/-- What nextLevel leaves. -/
def NextPost (w : World) (u : Bool) (n : Nat) (Ds : List Ty) (e : Ending) (w' : World) : Prop :=
  ∃ v ps vs, e = .returned v /\ Lev w w' u n v Ds ps vs
end Go.Proofs.YtlhmofphpfdjlaaGreatDoor
/- Levels of expressions: lists of nodes that lie in memory, and the lists within them; what a round of tree.nextLevel keeps. -/
namespace Go.Proofs.YtlhmofphpfdjlaaGreatDoor
open Go.Proofs.Tryz
open Go.RowKit
/-- A list of types, at least one. -/
def NLst (w : World) (_ : Bool) (n : Nat) (x : Value) (ks : List Ty) : Prop :=
  ∃ b o c, x = .slice (some ⟨b, o, none⟩) ks.length c /\ ks ≠ [] /\ ks.length <= reachBytes /\ NKids w n (some ⟨b, o, none⟩) ks
theorem NLst.good {w : World} {u : Bool} {n : Nat} {x : Value} {ks : List Ty} (h : NLst w u n x ks) : ∃ b o c, x = .slice (some ⟨b, o, none⟩) ks.length c /\ b < w.heap.size /\ GoodA w ⟨b, o, none⟩ /\ (u = true -> PlainA w ⟨b, o, none⟩) /\ ks ≠ [] /\ ks.length <= reachBytes := by
  obtain ⟨b, o, c, rfl, hne, hl, hk⟩ := h
  rcases hk with hk | ⟨b', o', e, hcl, hc⟩
  · exact absurd hk hne
  · injection e with e
    injection e with e1 e2
    subst e1 e2
    have hp : PlainA w ⟨b, o, none⟩ := hcl
    exact ⟨b, o, c, rfl, clean_lt hcl, hp.good, fun _ => hp, hne, hl⟩
/-- One place and one length are one list. -/
theorem nlst_det {w : World} {u u' : Bool} {n m : Nat} {x x' : Value} {ks ks' : List Ty} (h : NLst w u n x ks) (h' : NLst w u' m x' ks') (he : keyOfV x = keyOfV x') : ks = ks' := by
  obtain ⟨b, o, c, rfl, _, _, hk⟩ := h
  obtain ⟨b', o', c', rfl, _, _, hk'⟩ := h'
  obtain ⟨e1, e2⟩ := keyV_inj he
  injection e1 with e3 e4
  subst e3 e4
  exact nkids_det hk hk' e2
theorem nlst_below {w w' : World} {u : Bool} {n : Nat} {x : Value} {ks : List Ty} (h : NLst w u n x ks) (hb : Below w.heap.size w w') : NLst w' u n x ks := by
  obtain ⟨b, o, c, h1, h2, h3, h4⟩ := h
  exact ⟨b, o, c, h1, h2, h3, nkids_below h4 hb⟩
/-- What a round keeps. -/
structure NLev (w0 wr : World) (u : Bool) (n : Nat) (v : Value) (done : List Ty) (ps : List (Value × List Ty)) (vs : List Value) : Prop where
  bl : Below w0.heap.size w0 wr
  st : SetAt wr w0.heap.size vs
  ow : wr.ownsRow (w0.heap.size + 1) 25 1 v ps.length (ps.map (·.1))
  ls : ∀ p ∈ ps, NLst w0 u n p.1 p.2
  ky : ∀ y ∈ vs, ∃ p ∈ ps, y = keyOfV p.1
  fr : ∀ p ∈ ps, ∃ D ∈ done, p.2 = kidsT D
  tt : totL n ps <= (done.map (sizeT (n + 1))).sum
  al : u = true -> ∀ D ∈ done, kidsT D ≠ [] -> ∃ p ∈ ps, p.2 = kidsT D
section
variable {w0 wr wr' : World} {u : Bool} {n : Nat} {v : Value} {done : List Ty} {ps : List (Value × List Ty)} {vs : List Value}
theorem NLev.sz (h : NLev w0 wr u n v done ps vs) : w0.heap.size < wr.heap.size := set_lt h.st
theorem NLev.grow (h : NLev w0 wr u n v done ps vs) (hg : wr.grownBy wr' none) : NLev w0 wr' u n v done ps vs where
  bl := h.bl.grown hg h.bl.size (fun k hk => by cases hk)
  st := set_block h.st (hg.block _ h.sz (by simp))
  ow := h.ow.kept hg (by cases h1 : v.ownBlock <;> simp)
  ls := h.ls
  ky := h.ky
  fr := h.fr
  tt := h.tt
  al := h.al
theorem NLev.goodK (h : NLev w0 wr u n v done ps vs) : ∀ y ∈ vs, GoodK wr y := by
  intro y hy
  obtain ⟨p, hp, rfl⟩ := h.ky y hy
  obtain ⟨b, o, c, e, _, hg, _⟩ := (h.ls p hp).good
  rw [e]
  exact ⟨_, _, rfl, hg.below h.bl⟩
theorem NLev.plainK (h : NLev w0 wr u n v done ps vs) (hu : u = true) : ∀ y ∈ vs, PlainK wr y := by
  intro y hy
  obtain ⟨p, hp, rfl⟩ := h.ky y hy
  obtain ⟨b, o, c, e, _, _, hg, _⟩ := (h.ls p hp).good
  rw [e]
  exact ⟨_, _, rfl, clean_below (hg hu) h.bl⟩
theorem NLev.skip (h : NLev w0 wr u n v done ps vs) {D : Ty} (hD : kidsT D = []) : NLev w0 wr u n v (done ++ [D]) ps vs where
  bl := h.bl
  st := h.st
  ow := h.ow
  ls := h.ls
  ky := h.ky
  fr p hp := by
    obtain ⟨E, hE, h2⟩ := h.fr p hp
    exact ⟨E, by simp [hE], h2⟩
  tt := by
    have := h.tt
    simp
    omega
  al hu E hE hne := by
    rcases List.mem_append.1 hE with hE | hE
    · exact h.al hu E hE hne
    · rw [List.mem_singleton.1 hE] at hne
      exact absurd hD hne
theorem NLev.had (h : NLev w0 wr u n v done ps vs) {D : Ty} {x : Value} (hx : NLst w0 u n x (kidsT D)) (hf : ∃ y ∈ vs, PlainK wr (keyOfV x) -> (∀ z ∈ vs, PlainK wr z) -> y = keyOfV x) : NLev w0 wr u n v (done ++ [D]) ps vs where
  bl := h.bl
  st := h.st
  ow := h.ow
  ls := h.ls
  ky := h.ky
  fr p hp := by
    obtain ⟨E, hE, h2⟩ := h.fr p hp
    exact ⟨E, by simp [hE], h2⟩
  tt := by
    have := h.tt
    simp
    omega
  al hu E hE hne := by
    rcases List.mem_append.1 hE with hE | hE
    · exact h.al hu E hE hne
    · rw [List.mem_singleton.1 hE]
      obtain ⟨y, hy, hp⟩ := hf
      obtain ⟨b, o, c, e, _, _, hg, _⟩ := hx.good
      have hyx := hp (by rw [e]; exact ⟨_, _, rfl, clean_below (hg hu) h.bl⟩) (h.plainK hu)
      obtain ⟨p, hpm, he⟩ := h.ky y hy
      exact ⟨p, hpm, nlst_det (h.ls p hpm) hx (he.symm.trans hyx)⟩
/-- One more: the set first, then the list. -/
theorem NLev.add {w1 w2 : World} {vs' : List Value} {v' : Value} (h : NLev w0 wr u n v done ps vs) {D : Ty} {x : Value} (hx : NLst w0 u n x (kidsT D)) (hs : SetAt w1 w0.heap.size vs') (hg : wr.grownBy w1 (some w0.heap.size))
    (hsub : ∀ y ∈ vs', y ∈ vs ∨ y = keyOfV x) {o : Obj} (ho : w2.ownsRow (w0.heap.size + 1) 25 1 v' (ps.length + 1) (ps.map (·.1) ++ [x])) (hg2 : (w1.alloc o).grownBy w2 v.ownBlock) :
    NLev w0 w2 u n v' (done ++ [D]) (ps ++ [(x, kidsT D)]) vs' := by
  have hsz := h.sz
  have hlow : ∀ i, i <= w0.heap.size -> w2.heap[i]? = w1.heap[i]? := fun i hi => by
    have h1 : i < w1.heap.size := Nat.lt_of_le_of_lt hi (Nat.lt_of_lt_of_le hsz hg.size)
    rw [hg2.block i (by simp; omega) (fun e => by have := (h.ow.lt i e.symm).1; omega), Below.heap_alloc _ _ _ h1]
  refine ⟨⟨?_, ?_, ?_, ?_, ?_⟩, ?_, ?_, ?_, ?_, ?_, ?_, ?_⟩
  · rw [hg2.os]; exact hg.os.trans h.bl.os
  · rw [hg2.tape]; exact hg.tape.trans h.bl.tape
  · rw [hg2.output]; exact hg.output.trans h.bl.output
  · have h1 := hg2.size
    have h2 := hg.size
    simp at h1
    omega
  · intro k hk
    rw [hlow k (by omega), hg.block k (by omega) (fun e => by injection e with e; omega)]
    exact h.bl.block k hk
  · exact set_block hs (hlow _ (Nat.le_refl _))
  · simpa using ho
  · intro p hp
    rcases List.mem_append.1 hp with hp | hp
    · exact h.ls p hp
    · rw [List.mem_singleton.1 hp]
      exact hx
  · intro y hy
    rcases hsub y hy with hy | rfl
    · obtain ⟨p, hp, e⟩ := h.ky y hy
      exact ⟨p, by simp [hp], e⟩
    · exact ⟨(x, kidsT D), by simp, rfl⟩
  · intro p hp
    rcases List.mem_append.1 hp with hp | hp
    · obtain ⟨E, hE, h2⟩ := h.fr p hp
      exact ⟨E, by simp [hE], h2⟩
    · rw [List.mem_singleton.1 hp]
      exact ⟨D, by simp, rfl⟩
  · have := h.tt
    unfold totL at this ⊢
    simp only [List.map_append, List.sum_append, List.map_cons, List.map_nil, List.sum_cons, List.sum_nil]
    rw [show sizeT (n + 1) D = 1 + ((kidsT D).map (sizeT n)).sum from rfl]
    omega
  · intro hu E hE hne
    rcases List.mem_append.1 hE with hE | hE
    · obtain ⟨p, hp, e⟩ := h.al hu E hE hne
      exact ⟨p, by simp [hp], e⟩
    · rw [List.mem_singleton.1 hE]
      exact ⟨(x, kidsT D), by simp, rfl⟩
theorem ntot_len {w : World} : ∀ {ps : List (Value × List Ty)}, (∀ p ∈ ps, NLst w u n p.1 p.2) -> ps.length <= totL n ps
  | [], _ => Nat.zero_le _
  | p :: ps, h => by
    have ih := ntot_len (ps := ps) fun q hq => h q (by simp [hq])
    unfold totL at ih ⊢
    obtain ⟨b, o, c, _, hne, _, hk⟩ := h p (by simp)
    have h1 : 1 <= (p.2.map (sizeT n)).sum := by
      rcases hk with hk | ⟨_, _, _, _, hc⟩
      · exact absurd hk hne
      · obtain ⟨_, _, _, _, _, _, _, _, ht⟩ := hc 0 (List.length_pos_iff.2 hne)
        obtain ⟨m, rfl⟩ : ∃ m, n = m + 1 := by
          cases n with
          | zero => exact ht.elim
          | succ m => exact ⟨m, rfl⟩
        obtain ⟨D, ks, e⟩ := List.exists_cons_of_ne_nil hne
        rw [e, List.map_cons, List.sum_cons]
        have := size_pos (n := m) (D := D)
        omega
    simp only [List.map_cons, List.sum_cons, List.length_cons]
    omega
end
end Go.Proofs.YtlhmofphpfdjlaaGreatDoor
