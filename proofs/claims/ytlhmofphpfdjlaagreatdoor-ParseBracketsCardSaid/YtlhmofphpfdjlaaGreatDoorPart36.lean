/- Part. -/
import Derived.Defers
import Derived.Recover
import Derived.Test.YtlhmofphpfdjlaaGreatDoorPart35
set_option maxRecDepth 100000
set_option maxHeartbeats 4000000
/- What is deferred: a Diag that was given up with is the answer. -/
namespace Go.Proofs.YtlhmofphpfdjlaaGreatDoor
open Go.Proofs.Tryz
open Go.RowKit
theorem heap_drew (W : World) : W.drew.heap = W.heap := rfl
theorem nil_neq (v : Value) (w : World) : (binOp .neq 20 (.iface 30 v) .nilIface).run prog w = .ok (.bool true) w := by
  kernel_rfl
theorem assert_diag (v : Value) (w : World) : (Instr.typeAssert (.iface 30 v) 20 30 false).run prog w = .ok v w := by kernel_rfl
theorem nil_nil (w : World) : (binOp .neq 20 .nilIface .nilIface).run prog w = .ok (.bool false) w := by kernel_rfl
theorem catchT_idle (p q : Addr) (w : World) :
    CallsD prog 30 #[.pointer (some p), .pointer (some q)] .returning w fun e u' w' => e = .returned (.tuple #[]) /\ u' = .returning /\ w' = w := by
  have hn := nil_nil
  refine callsD_of_wpS func30 rfl fun c₀ cs hu => ?_
  apply wpS_seq
  apply wpS_region
  simp [wpOpsS, go_sem, recoverD, hu, ntmps30, Exit.thenS]
  refine wpS_of_wp ?_
  simp only [Array.replicate, List.replicate, List.setIfInBounds_toArray, List.set_cons_zero, List.set_cons_succ, List.append_toArray, List.cons_append, List.nil_append]
  go_wp2
  cases c₀
  simp_all [bodyPostS, results, results30]
theorem catchT_panic (ab db : Nat) (li co x : Int) (older : List PanicEntry) (w : World) (y0 y1 y2 y3 x0 x1 x2 x3 : Value) (ha : w.heap[ab]? = some (.cells #[y0, y1, y2, y3] 44)) (hd : w.heap[db]? = some (.cells #[x0, x1, x2, x3] 30)) (hab : ab ≠ db) :
    CallsD prog 30 #[.pointer (some ⟨ab, 0, none⟩), .pointer (some ⟨db, 0, none⟩)] (.panicking ({ v := .iface 30 (diagV li co x), recovered := false } :: older)) w fun e u' w' => e = .returned (.tuple #[]) /\ u' = .panicking ({ v := .iface 30 (diagV li co x), recovered := true } :: older) /\
      (w'.heap[ab]? = some zTyO /\ w'.heap[db]? = some (.cells #[.int .i64 0, .int .i64 li, .int .i64 co, .int .i64 x] 30)) /\ Hid (∀ B, B <= ab -> B <= db -> Below B w w') := by
  have hn := nil_neq
  have hta := assert_diag
  obtain ⟨⟨a0, a1, a2, a3⟩, ⟨z0, z1, z2, z3⟩, hla⟩ := res_facts ha
  obtain ⟨⟨d0, d1, d2, d3⟩, ⟨g0, g1, g2, g3⟩, hld⟩ := res_facts hd
  have HA := hideP ha
  have HD := hideP hd
  clear ha hd
  have hab' : ¬ db = ab := fun e => hab e.symm
  refine callsD_of_wpS func30 rfl fun c₀ cs hu => ?_
  apply wpS_seq
  apply wpS_region
  simp [wpOpsS, go_sem, recoverD, hu, ntmps30, Exit.thenS]
  refine wpS_of_wp ?_
  simp only [Array.replicate, List.replicate, List.setIfInBounds_toArray, List.set_cons_zero, List.set_cons_succ, List.append_toArray, List.cons_append, List.nil_append]
  go_wp2
  go_region
  all_goals
    go_wp2
    refine ⟨rfl, _, rfl, .tuple #[], results_none rfl _ _ _, rfl, rfl, ⟨?_, ?_⟩, fun B h1 h2 => ?_⟩
    · rw [heap_drew]
      refine (Below.heap_alloc _ _ _ (by rw [size_set4, size_set4]; exact hla)).trans ?_
      exact (other_set4 hab _ _ _ _).trans (set4 HA.out _ _ _ _)
    · rw [heap_drew]
      refine (Below.heap_alloc _ _ _ (by rw [size_set4, size_set4]; exact hld)).trans ?_
      exact set4 ((other_set4 hab' _ _ _ _).trans HD.out) _ _ _ _
    · exact ((below_set4 (below_set4 (Below.refl _ w) h1 _ _ _ _) h2 _ _ _ _).alloc (by rw [size_set4, size_set4]; omega) _).drew
end Go.Proofs.YtlhmofphpfdjlaaGreatDoor
/- The steps of the tokens' function, and the chapter's examples; without a program in sight. -/
namespace Go.Proofs.YtlhmofphpfdjlaaGreatDoor.Lx
open Go.Proofs.Tryz
theorem lexGo_end {f n li co li' co' : Nat} {l : List UInt8} (h : skipV false l li co = ([], li', co')) : lexGo (f + 1) l li co n = .toks [⟨0, [], li', co'⟩] := by
  rw [lexGo, h]
theorem lexGo_bad {f n li co li' co' : Nat} {l r : List UInt8} {e : Int} (h : skipV false l li co = (r, li', co')) (hr : r ≠ []) (he : readV r = .bad e) : lexGo (f + 1) l li co n = .bad e li' co' := by
  cases r with
  | nil => exact absurd rfl hr
  | cons b r => rw [lexGo, h]; simp only; rw [he]
theorem lexGo_many {f li co li' co' : Nat} {l r t rest : List UInt8} {k : Int} (h : skipV false l li co = (r, li', co')) (hr : r ≠ []) (he : readV r = .tok k t rest) : lexGo (f + 1) l li co 8192 = .bad 19 li' co' := by
  cases r with
  | nil => exact absurd rfl hr
  | cons b r => rw [lexGo, h]; simp only; rw [he]; simp
theorem lexGo_tok {f n li co li' co' : Nat} {l r t rest : List UInt8} {k : Int} (h : skipV false l li co = (r, li', co')) (hr : r ≠ []) (he : readV r = .tok k t rest) (hn : n ≠ 8192) :
    lexGo (f + 1) l li co n = (lexGo f rest li' (co' + (r.length - rest.length)) (n + 1)).pre [⟨k, t, li', co'⟩] := by
  cases r with
  | nil => exact absurd rfl hr
  | cons b r => rw [lexGo, h]; simp only; rw [he]; simp [hn]
/-- A case for each way of a step. -/
theorem lexGo_cases {P : Nat -> List UInt8 -> Nat -> Nat -> Nat -> Prop}
    (h1 : ∀ f l li co n li' co', skipV false l li co = ([], li', co') -> P (f + 1) l li co n)
    (h2 : ∀ f l li co n r li' co' e, skipV false l li co = (r, li', co') -> r ≠ [] -> readV r = .bad e -> P (f + 1) l li co n)
    (h3 : ∀ f l li co r li' co' k t rest, skipV false l li co = (r, li', co') -> r ≠ [] -> readV r = .tok k t rest -> P (f + 1) l li co 8192)
    (h4 : ∀ f l li co n r li' co' k t rest, skipV false l li co = (r, li', co') -> r ≠ [] -> readV r = .tok k t rest -> n ≠ 8192 -> r.length <= l.length -> rest.length < r.length -> P f rest li' (co' + (r.length - rest.length)) (n + 1) -> P (f + 1) l li co n)
    (f : Nat) (l : List UInt8) (li co n : Nat) (hf : l.length < f) : P f l li co n := by
  induction f generalizing l li co n with
  | zero => omega
  | succ f ih =>
    obtain ⟨r, li', co', h⟩ : ∃ r li' co', skipV false l li co = (r, li', co') := ⟨_, _, _, rfl⟩
    by_cases hr : r = []
    · subst hr; exact h1 f l li co n li' co' h
    cases he : readV r with
    | inl e => exact h2 f l li co n r li' co' e h hr he
    | inr q =>
      obtain ⟨k, t, rest⟩ := q
      by_cases hn : n = 8192
      · subst hn; exact h3 f l li co r li' co' k t rest h hr he
      have a1 : r.length <= l.length := by
        have := skip_suffix false l li co
        rw [h] at this
        exact this.length_le
      obtain ⟨c, hc, hne⟩ := readV_rest he
      have a2 : rest.length < r.length := by
        rw [hc, List.length_append]
        have := List.length_pos_iff.2 hne
        omega
      exact h4 f l li co n r li' co' k t rest h hr he hn a1 a2 (ih rest li' _ (n + 1) (by omega))
theorem awakeV1 : lexV [108, 101, 116, 32, 120, 49, 32, 61, 32, 49, 50, 59] = .toks [⟨2, [108, 101, 116], 1, 1⟩, ⟨1, [120, 49], 1, 5⟩, ⟨5, [61], 1, 8⟩, ⟨3, [49, 50], 1, 10⟩, ⟨5, [59], 1, 12⟩, ⟨0, [], 1, 13⟩] := by kernel_rfl
theorem awakeV2 : lexV [48, 48, 55] = .bad 3 1 1 := by kernel_rfl
theorem awakeV3 : lexV [34, 97] = .bad 4 1 1 := by kernel_rfl
theorem awakeV4 : lexV [63] = .bad 5 1 1 := by kernel_rfl
end Go.Proofs.YtlhmofphpfdjlaaGreatDoor.Lx
/- What of a text's tokens the parser leans on; without a program in sight. -/
namespace Go.Proofs.YtlhmofphpfdjlaaGreatDoor
open Go.Proofs.Tryz
/-- The last token alone is the end; no word is a colon. -/
def TsOk : List Tok -> Prop
  | [] => False
  | [t] => t.kind = 0 /\ t.text.length <= 70000
  | t :: u :: r => (t.kind ≠ 0 /\ t.text.length <= 70000 /\ (t.kind = 2 -> t.text ≠ [58])) /\ TsOk (u :: r)
theorem read_ok {l t rest : List UInt8} {k : Int} (hl : l.length <= 65536) (h : readV l = .tok k t rest) : k ≠ 0 /\ t.length <= 70000 /\ (k = 2 -> t ≠ [58]) := by
  match l, h, hl with
  | [], h, _ => cases h
  | b :: r, h, hl =>
    have htl : ∀ p : UInt8 -> Bool, ((b :: r).takeWhile p).length <= 70000 := fun p => by
      have := (List.takeWhile_sublist p (l := b :: r)).length_le
      omega
    unfold readV at h
    by_cases h1 : isLet b = true
    · simp only [h1, if_true] at h
      by_cases h2 : 32 < ((b :: r).takeWhile inNm).length
      · rw [if_pos h2] at h; cases h
      · rw [if_neg h2] at h
        obtain ⟨rfl, rfl, _⟩ := rd_inj h
        by_cases hw : wordsV.contains ((b :: r).takeWhile inNm) = true
        · rw [if_pos hw]
          refine ⟨by decide, htl _, fun _ e => ?_⟩
          rw [e] at hw
          exact absurd hw (by decide)
        · rw [if_neg hw]
          exact ⟨by decide, htl _, fun e => absurd e (by decide)⟩
    · simp only [h1] at h
      by_cases h2 : isDig b = true
      · simp only [h2, if_true] at h
        cases hp : parseV ((b :: r).takeWhile isDig) with
        | none => simp [hp] at h
        | some N =>
          simp only [hp] at h
          have h' : Rd.tok 3 ((b :: r).takeWhile isDig) ((b :: r).dropWhile isDig) = Rd.tok k t rest := by simpa using h
          obtain ⟨rfl, rfl, _⟩ := rd_inj h'
          exact ⟨by decide, htl _, fun e => absurd e (by decide)⟩
      · simp only [h2] at h
        by_cases h3 : b = 34
        · simp only [h3, if_true] at h
          cases hs : strV r [] with
          | none => simp [hs] at h
          | some p =>
            obtain ⟨said, rs⟩ := p
            simp only [hs] at h
            by_cases h4 : 256 < said.length
            · simp [h4] at h
            · have h' : Rd.tok 4 said rs = Rd.tok k t rest := by simpa [h4] using h
              obtain ⟨rfl, rfl, _⟩ := rd_inj h'
              exact ⟨by decide, by omega, fun e => absurd e (by decide)⟩
        · simp only [h3] at h
          by_cases h4 : signV (b :: r) = 0
          · simp [h4] at h
          · have h' : Rd.tok 5 ((b :: r).take (signV (b :: r))) ((b :: r).drop (signV (b :: r))) = Rd.tok k t rest := by simpa [h4] using h
            obtain ⟨rfl, rfl, _⟩ := rd_inj h'
            refine ⟨by decide, ?_, fun e => absurd e (by decide)⟩
            have := List.length_take_le (signV (b :: r)) (b :: r)
            have h5 := List.length_take_le' (signV (b :: r)) (b :: r)
            omega
theorem lexGo_ok : ∀ (f : Nat) (l : List UInt8) (li co n : Nat) (ts : List Tok), l.length <= 65536 -> n <= 8192 -> lexGo f l li co n = .inl ts -> TsOk ts /\ ts.length + n <= 8193
  | 0, _, _, _, _, _, _, _, h => by cases h
  | f + 1, l, li, co, n, ts, hl, hn, h => by
    obtain ⟨r, li', co', hs⟩ : ∃ r li' co', skipV false l li co = (r, li', co') := ⟨_, _, _, rfl⟩
    have hsuf := skip_suffix false l li co
    rw [hs] at hsuf
    have hrl : r.length <= 65536 := Nat.le_trans hsuf.length_le hl
    by_cases hr : r = []
    · subst hr
      rw [Lx.lexGo_end hs] at h
      injection h with h
      rw [<- h]
      exact ⟨⟨rfl, Nat.zero_le _⟩, by simp; omega⟩
    · cases he : readV r with
      | inl e => rw [Lx.lexGo_bad hs hr he] at h; cases h
      | inr p =>
        obtain ⟨k, t, rest⟩ := p
        by_cases hn2 : n = 8192
        · subst hn2
          rw [Lx.lexGo_many hs hr he] at h
          cases h
        · rw [Lx.lexGo_tok hs hr he hn2] at h
          have hrest : rest.length <= 65536 := by
            obtain ⟨c, hc, _⟩ := readV_rest he
            have := congrArg List.length hc
            rw [List.length_append] at this
            omega
          cases hg : lexGo f rest li' (co' + (r.length - rest.length)) (n + 1) with
          | inr e => rw [hg] at h; cases h
          | inl ts' =>
            obtain ⟨h1, h2⟩ := lexGo_ok f rest li' _ (n + 1) ts' hrest (by omega) hg
            rw [hg] at h
            injection h with h
            rw [<- h]
            refine ⟨?_, by simp; omega⟩
            match ts', h1 with
            | u :: r', h1 => exact ⟨read_ok hrl he, h1⟩
theorem read_bad {l : List UInt8} {e : Int} (h : readV l = .bad e) : e ≠ 0 := by
  match l, h with
  | [], h => injection h with h; rw [<- h]; decide
  | b :: r, h =>
    unfold readV at h
    by_cases h1 : isLet b = true
    · simp only [h1, if_true] at h
      by_cases h2 : 32 < ((b :: r).takeWhile inNm).length
      · rw [if_pos h2] at h; injection h with h; rw [<- h]; decide
      · rw [if_neg h2] at h; cases h
    · simp only [h1] at h
      by_cases h2 : isDig b = true
      · simp only [h2, if_true] at h
        cases hp : parseV ((b :: r).takeWhile isDig) with
        | none =>
          have h' : Rd.bad 3 = Rd.bad e := by simpa [hp] using h
          injection h' with h'; rw [<- h']; decide
        | some N => simp [hp] at h
      · simp only [h2] at h
        by_cases h3 : b = 34
        · simp only [h3, if_true] at h
          cases hs : strV r [] with
          | none =>
            have h' : Rd.bad 4 = Rd.bad e := by simpa [hs] using h
            injection h' with h'; rw [<- h']; decide
          | some p =>
            obtain ⟨said, rs⟩ := p
            simp only [hs] at h
            by_cases h4 : 256 < said.length
            · have h' : Rd.bad 2 = Rd.bad e := by simpa [h4] using h
              injection h' with h'; rw [<- h']; decide
            · simp [h4] at h
        · simp only [h3] at h
          by_cases h4 : signV (b :: r) = 0
          · have h' : Rd.bad 5 = Rd.bad e := by simpa [h4] using h
            injection h' with h'; rw [<- h']; decide
          · simp [h4] at h
theorem lexGo_err : ∀ (f : Nat) (l : List UInt8) (li co n : Nat) (x : Int) (a b : Nat), l.length < f -> lexGo f l li co n = .inr (x, a, b) -> x ≠ 0
  | 0, _, _, _, _, _, _, _, hf, _ => absurd hf (Nat.not_lt_zero _)
  | f + 1, l, li, co, n, x, a, b, hf, h => by
    obtain ⟨r, li', co', hs⟩ : ∃ r li' co', skipV false l li co = (r, li', co') := ⟨_, _, _, rfl⟩
    have hsuf := skip_suffix false l li co
    rw [hs] at hsuf
    have hrl := hsuf.length_le
    simp only at hrl
    by_cases hr : r = []
    · subst hr
      rw [Lx.lexGo_end hs] at h
      cases h
    · cases he : readV r with
      | inl e =>
        rw [Lx.lexGo_bad hs hr he] at h
        injection h with h
        injection h with h
        rw [<- h]
        exact read_bad he
      | inr p =>
        obtain ⟨k, t, rest⟩ := p
        by_cases hn2 : n = 8192
        · subst hn2
          rw [Lx.lexGo_many hs hr he] at h
          injection h with h
          injection h with h
          rw [<- h]
          decide
        · rw [Lx.lexGo_tok hs hr he hn2] at h
          cases hg : lexGo f rest li' (co' + (r.length - rest.length)) (n + 1) with
          | inl ts => rw [hg] at h; cases h
          | inr e =>
            obtain ⟨x', a', b'⟩ := e
            rw [hg] at h
            injection h with h
            injection h with h
            rw [<- h]
            have hlt : rest.length < r.length := by
              obtain ⟨c, hc, hne⟩ := readV_rest he
              have := congrArg List.length hc
              rw [List.length_append] at this
              have := List.length_pos_iff.2 hne
              omega
            exact lexGo_err f rest _ _ _ x' a' b' (by omega) hg
theorem lex_err {l : List UInt8} {x : Int} {a b : Nat} (h : lexV l = .inr (x, a, b)) : x ≠ 0 := by
  unfold lexV at h
  by_cases hl : 65536 < l.length
  · rw [if_pos hl] at h
    injection h with h
    injection h with h
    rw [<- h]
    decide
  · rw [if_neg hl] at h
    exact lexGo_err _ l 1 1 0 x a b (Nat.lt_succ_self _) h
theorem tsOk_at : ∀ {ts : List Tok}, TsOk ts -> ∀ a (h : a < ts.length), (ts[a].kind ≠ 0 -> a + 1 < ts.length) /\ ts[a].text.length <= 70000 /\ (ts[a].kind = 2 -> ts[a].text ≠ [58])
  | [], h, _, _ => h.elim
  | [t], h, 0, _ => ⟨fun e => absurd h.1 e, h.2, fun e => by have := h.1; have e' : t.kind = 2 := e; rw [e'] at this; cases this⟩
  | t :: u :: r, h, 0, _ => ⟨fun _ => by simp, h.1.2.1, h.1.2.2⟩
  | t :: u :: r, h, a + 1, ha => by
    have := tsOk_at h.2 a (by simpa using ha)
    exact ⟨fun e => by have := this.1 e; simpa using this, this.2⟩
theorem lex_toks {l : List UInt8} {ts : List Tok} (h : lexV l = .inl ts) : ToksOk ts := by
  unfold lexV at h
  by_cases hl : 65536 < l.length
  · rw [if_pos hl] at h; cases h
  · rw [if_neg hl] at h
    obtain ⟨h1, h2⟩ := lexGo_ok _ l 1 1 0 ts (by omega) (by omega) h
    have hat := fun a ha => tsOk_at h1 a ha
    have htk : ∀ a (ha : a < ts.length), tkA ts a = ts[a] := fun a ha => by
      unfold tkA
      rw [List.getD_eq_getElem?_getD, List.getElem?_eq_getElem ha]
      rfl
    refine ⟨fun a ha hk => ?_, ?_, by omega, fun a => ?_, fun a ha hk => ?_⟩
    · rw [htk a ha] at hk
      exact (hat a ha).1 hk
    · cases ts with
      | nil => exact h1.elim
      | cons t r => simp
    · by_cases ha : a < ts.length
      · rw [htk a ha]
        exact (hat a ha).2.1
      · unfold tkA
        rw [List.getD_eq_getElem?_getD, List.getElem?_eq_none (by omega)]
        simp
    · rw [htk a ha] at hk ⊢
      exact (hat a ha).2.2 hk
end Go.Proofs.YtlhmofphpfdjlaaGreatDoor
/- lex.rowEnd by a contract: the end of the longest row of bytes that belong. -/
namespace Go.Proofs.YtlhmofphpfdjlaaGreatDoor.Lx
open Go.Proofs.Tryz
open Go.RowKit
/-- The end of the longest row of bytes that belong, from k on. -/
def rowV (s : ByteArray) (k : Nat) (p : UInt8 -> Bool) : Nat := k + ((s.data.toList.drop k).takeWhile p).length
theorem rowV_le (s : ByteArray) (k : Nat) (p : UInt8 -> Bool) (hk : k <= s.size) : rowV s k p <= s.size := by
  unfold rowV
  have h : ((s.data.toList.drop k).takeWhile p).length <= (s.data.toList.drop k).length := (List.takeWhile_sublist p).length_le
  rw [List.length_drop, byteArray_len] at h
  omega
theorem rowV_on {s : ByteArray} {k : Nat} {p : UInt8 -> Bool} (hk : k < s.size) (h : p s[k] = true) : rowV s k p = rowV s (k + 1) p := by
  unfold rowV
  rw [byteArray_drop s k hk, List.takeWhile_cons_of_pos h, List.length_cons]
  omega
theorem rowV_off {s : ByteArray} {k : Nat} {p : UInt8 -> Bool} (hk : k < s.size) (h : p s[k] = false) : rowV s k p = k := by
  unfold rowV
  rw [byteArray_drop s k hk, List.takeWhile_cons_of_neg (by rw [h]; decide)]
  rfl
theorem rowV_end {s : ByteArray} {k : Nat} {p : UInt8 -> Bool} (hk : ¬ k < s.size) : rowV s k p = k := by
  unfold rowV
  rw [List.drop_eq_nil_of_le (by rw [byteArray_len]; omega)]
  rfl
theorem rowEnd_name (s : ByteArray) (hs : s.size <= 140737488351232) (k : Nat) (hk : k <= s.size) (w : World) :
    Calls prog 84 #[.string s, .int .i64 k, .func (.func 88) #[] #[]] w fun e w' => e = .returned (.int .i64 (rowV s k inNm)) /\ w' = w := by
  go_enter func84, ntmps84
  go_wp2
  go_loop [7] (fun i => ∃ m : Nat, m <= s.size /\ i = .int .i64 m /\ rowV s k inNm = rowV s m inNm) (fun i => s.size - (intOf i).toNat)
  case atStart => exact ⟨k, hk, rfl, rfl⟩
  case round =>
    obtain ⟨m, hm, rfl, hrow⟩ := hrel
    have HR := hideP hrow
    clear hrow
    by_cases hlt : m < s.size
    · have hc := inName_c s[m]
      have hyes := rowV_on (p := inNm) hlt
      have hno := rowV_off (p := inNm) hlt
      cases hp : inNm s[m]
      · rw [hp] at hc
        have E := hideP (hno hp)
        have HC := hideP hc
        clear hyes hno hp hc
        go_wp2_with fail
        refine (HC.out _).mono ?_
        rintro e w' ⟨rfl, rfl⟩
        go_wp2
        go_ret
        rw [HR.out, E.out]
        exact ⟨rfl, rfl⟩
      · rw [hp] at hc
        have E := hideP (hyes hp)
        have HC := hideP hc
        clear hyes hno hp hc
        go_wp2_with fail
        refine (HC.out _).mono ?_
        rintro e w' ⟨rfl, rfl⟩
        go_wp2
        go_round
        case rel => exact ⟨m + 1, by omega, by go_num, HR.out.trans E.out⟩
        case measure => simp [intOf]; omega
    · go_wp2
      go_ret
      rw [HR.out, rowV_end hlt]
      exact ⟨rfl, rfl⟩
theorem rowEnd_digit (s : ByteArray) (hs : s.size <= 140737488351232) (k : Nat) (hk : k <= s.size) (w : World) :
    Calls prog 84 #[.string s, .int .i64 k, .func (.func 90) #[] #[]] w fun e w' => e = .returned (.int .i64 (rowV s k isDig)) /\ w' = w := by
  go_enter func84, ntmps84
  go_wp2
  go_loop [7] (fun i => ∃ m : Nat, m <= s.size /\ i = .int .i64 m /\ rowV s k isDig = rowV s m isDig) (fun i => s.size - (intOf i).toNat)
  case atStart => exact ⟨k, hk, rfl, rfl⟩
  case round =>
    obtain ⟨m, hm, rfl, hrow⟩ := hrel
    have HR := hideP hrow
    clear hrow
    by_cases hlt : m < s.size
    · have hc := isDigit_c s[m]
      have hyes := rowV_on (p := isDig) hlt
      have hno := rowV_off (p := isDig) hlt
      cases hp : isDig s[m]
      · rw [hp] at hc
        have E := hideP (hno hp)
        have HC := hideP hc
        clear hyes hno hp hc
        go_wp2_with fail
        refine (HC.out _).mono ?_
        rintro e w' ⟨rfl, rfl⟩
        go_wp2
        go_ret
        rw [HR.out, E.out]
        exact ⟨rfl, rfl⟩
      · rw [hp] at hc
        have E := hideP (hyes hp)
        have HC := hideP hc
        clear hyes hno hp hc
        go_wp2_with fail
        refine (HC.out _).mono ?_
        rintro e w' ⟨rfl, rfl⟩
        go_wp2
        go_round
        case rel => exact ⟨m + 1, by omega, by go_num, HR.out.trans E.out⟩
        case measure => simp [intOf]; omega
    · go_wp2
      go_ret
      rw [HR.out, rowV_end hlt]
      exact ⟨rfl, rfl⟩
theorem rowEnd_lf (s : ByteArray) (hs : s.size <= 140737488351232) (k : Nat) (hk : k <= s.size) (w : World) :
    Calls prog 84 #[.string s, .int .i64 k, .func (.func 85) #[] #[]] w fun e w' => e = .returned (.int .i64 (rowV s k notLf)) /\ w' = w := by
  go_enter func84, ntmps84
  go_wp2
  go_loop [7] (fun i => ∃ m : Nat, m <= s.size /\ i = .int .i64 m /\ rowV s k notLf = rowV s m notLf) (fun i => s.size - (intOf i).toNat)
  case atStart => exact ⟨k, hk, rfl, rfl⟩
  case round =>
    obtain ⟨m, hm, rfl, hrow⟩ := hrel
    have HR := hideP hrow
    clear hrow
    by_cases hlt : m < s.size
    · have hc := notLf_c s[m]
      have hyes := rowV_on (p := notLf) hlt
      have hno := rowV_off (p := notLf) hlt
      cases hp : notLf s[m]
      · rw [hp] at hc
        have E := hideP (hno hp)
        have HC := hideP hc
        clear hyes hno hp hc
        go_wp2_with fail
        refine (HC.out _).mono ?_
        rintro e w' ⟨rfl, rfl⟩
        go_wp2
        go_ret
        rw [HR.out, E.out]
        exact ⟨rfl, rfl⟩
      · rw [hp] at hc
        have E := hideP (hyes hp)
        have HC := hideP hc
        clear hyes hno hp hc
        go_wp2_with fail
        refine (HC.out _).mono ?_
        rintro e w' ⟨rfl, rfl⟩
        go_wp2
        go_round
        case rel => exact ⟨m + 1, by omega, by go_num, HR.out.trans E.out⟩
        case measure => simp [intOf]; omega
    · go_wp2
      go_ret
      rw [HR.out, rowV_end hlt]
      exact ⟨rfl, rfl⟩
end Go.Proofs.YtlhmofphpfdjlaaGreatDoor.Lx
