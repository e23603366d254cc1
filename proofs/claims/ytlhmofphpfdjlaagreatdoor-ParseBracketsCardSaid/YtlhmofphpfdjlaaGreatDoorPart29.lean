/- Part. -/
import Derived.Maps.OwnSet
import Derived.DeepKeys4
import Derived.Test.YtlhmofphpfdjlaaGreatDoorPart22
set_option maxRecDepth 100000
set_option maxHeartbeats 4000000
/- The steps of the tokens' function, and the chapter's examples; without a program in sight. -/
namespace Go.Proofs.YtlhmofphpfdjlaaGreatDoor.Lx
open Go.Proofs.Tryz
theorem lexGo_end {f n li co li' co' : Nat} {l : List UInt8} (h : skipV false l li co = ([], li', co')) : lexGo (f + 1) l li co n = .toks [⟨0, [], li', co'⟩] := by
  rw [lexGo, h]
theorem lexGo_bad {f n li co li' co' : Nat} {l r : List UInt8} {e : Int} (h : skipV false l li co = (r, li', co')) (hr : r ≠ []) (he : readV r = .bad e) : lexGo (f + 1) l li co n = .bad e li' co' := by
  cases r with
  | nil => exact absurd rfl hr
  | cons b r => rw [lexGo, h]; simp only; rw [he]
theorem lexGo_many {f li co li' co' : Nat} {l r t rest : List UInt8} {k : Int} (h : skipV false l li co = (r, li', co')) (hr : r ≠ []) (he : readV r = .tok k t rest) : lexGo (f + 1) l li co 8192 = .bad 19 li' co' := by
  cases r with
  | nil => exact absurd rfl hr
  | cons b r => rw [lexGo, h]; simp only; rw [he]; simp
theorem lexGo_tok {f n li co li' co' : Nat} {l r t rest : List UInt8} {k : Int} (h : skipV false l li co = (r, li', co')) (hr : r ≠ []) (he : readV r = .tok k t rest) (hn : n ≠ 8192) :
    lexGo (f + 1) l li co n = (lexGo f rest li' (co' + (r.length - rest.length)) (n + 1)).pre [⟨k, t, li', co'⟩] := by
  cases r with
  | nil => exact absurd rfl hr
  | cons b r => rw [lexGo, h]; simp only; rw [he]; simp [hn]
/-- A case for each way of a step. -/
theorem lexGo_cases {P : Nat -> List UInt8 -> Nat -> Nat -> Nat -> Prop}
    (h1 : ∀ f l li co n li' co', skipV false l li co = ([], li', co') -> P (f + 1) l li co n)
    (h2 : ∀ f l li co n r li' co' e, skipV false l li co = (r, li', co') -> r ≠ [] -> readV r = .bad e -> P (f + 1) l li co n)
    (h3 : ∀ f l li co r li' co' k t rest, skipV false l li co = (r, li', co') -> r ≠ [] -> readV r = .tok k t rest -> P (f + 1) l li co 8192)
    (h4 : ∀ f l li co n r li' co' k t rest, skipV false l li co = (r, li', co') -> r ≠ [] -> readV r = .tok k t rest -> n ≠ 8192 -> r.length <= l.length -> rest.length < r.length -> P f rest li' (co' + (r.length - rest.length)) (n + 1) -> P (f + 1) l li co n)
    (f : Nat) (l : List UInt8) (li co n : Nat) (hf : l.length < f) : P f l li co n := by
  induction f generalizing l li co n with
  | zero => omega
  | succ f ih =>
    obtain ⟨r, li', co', h⟩ : ∃ r li' co', skipV false l li co = (r, li', co') := ⟨_, _, _, rfl⟩
    by_cases hr : r = []
    · subst hr; exact h1 f l li co n li' co' h
    cases he : readV r with
    | inl e => exact h2 f l li co n r li' co' e h hr he
    | inr q =>
      obtain ⟨k, t, rest⟩ := q
      by_cases hn : n = 8192
      · subst hn; exact h3 f l li co r li' co' k t rest h hr he
      have a1 : r.length <= l.length := by
        have := skip_suffix false l li co
        rw [h] at this
        exact this.length_le
      obtain ⟨c, hc, hne⟩ := readV_rest he
      have a2 : rest.length < r.length := by
        rw [hc, List.length_append]
        have := List.length_pos_iff.2 hne
        omega
      exact h4 f l li co n r li' co' k t rest h hr he hn a1 a2 (ih rest li' _ (n + 1) (by omega))
theorem awakeV1 : lexV [108, 101, 116, 32, 120, 49, 32, 61, 32, 49, 50, 59] = .toks [⟨2, [108, 101, 116], 1, 1⟩, ⟨1, [120, 49], 1, 5⟩, ⟨5, [61], 1, 8⟩, ⟨3, [49, 50], 1, 10⟩, ⟨5, [59], 1, 12⟩, ⟨0, [], 1, 13⟩] := by kernel_rfl
theorem awakeV2 : lexV [48, 48, 55] = .bad 3 1 1 := by kernel_rfl
theorem awakeV3 : lexV [34, 97] = .bad 4 1 1 := by kernel_rfl
theorem awakeV4 : lexV [63] = .bad 5 1 1 := by kernel_rfl
end Go.Proofs.YtlhmofphpfdjlaaGreatDoor.Lx
/- What of a text's tokens the parser leans on; without a program in sight. -/
namespace Go.Proofs.YtlhmofphpfdjlaaGreatDoor
open Go.Proofs.Tryz
/-- The last token alone is the end; no word is a colon. -/
def TsOk : List Tok -> Prop
  | [] => False
  | [t] => t.kind = 0 /\ t.text.length <= 70000
  | t :: u :: r => (t.kind ≠ 0 /\ t.text.length <= 70000 /\ (t.kind = 2 -> t.text ≠ [58])) /\ TsOk (u :: r)
theorem read_ok {l t rest : List UInt8} {k : Int} (hl : l.length <= 65536) (h : readV l = .tok k t rest) : k ≠ 0 /\ t.length <= 70000 /\ (k = 2 -> t ≠ [58]) := by
  match l, h, hl with
  | [], h, _ => cases h
  | b :: r, h, hl =>
    have htl : ∀ p : UInt8 -> Bool, ((b :: r).takeWhile p).length <= 70000 := fun p => by
      have := (List.takeWhile_sublist p (l := b :: r)).length_le
      omega
    unfold readV at h
    by_cases h1 : isLet b = true
    · simp only [h1, if_true] at h
      by_cases h2 : 32 < ((b :: r).takeWhile inNm).length
      · rw [if_pos h2] at h; cases h
      · rw [if_neg h2] at h
        obtain ⟨rfl, rfl, _⟩ := rd_inj h
        by_cases hw : wordsV.contains ((b :: r).takeWhile inNm) = true
        · rw [if_pos hw]
          refine ⟨by decide, htl _, fun _ e => ?_⟩
          rw [e] at hw
          exact absurd hw (by decide)
        · rw [if_neg hw]
          exact ⟨by decide, htl _, fun e => absurd e (by decide)⟩
    · simp only [h1] at h
      by_cases h2 : isDig b = true
      · simp only [h2, if_true] at h
        cases hp : parseV ((b :: r).takeWhile isDig) with
        | none => simp [hp] at h
        | some N =>
          simp only [hp] at h
          have h' : Rd.tok 3 ((b :: r).takeWhile isDig) ((b :: r).dropWhile isDig) = Rd.tok k t rest := by simpa using h
          obtain ⟨rfl, rfl, _⟩ := rd_inj h'
          exact ⟨by decide, htl _, fun e => absurd e (by decide)⟩
      · simp only [h2] at h
        by_cases h3 : b = 34
        · simp only [h3, if_true] at h
          cases hs : strV r [] with
          | none => simp [hs] at h
          | some p =>
            obtain ⟨said, rs⟩ := p
            simp only [hs] at h
            by_cases h4 : 256 < said.length
            · simp [h4] at h
            · have h' : Rd.tok 4 said rs = Rd.tok k t rest := by simpa [h4] using h
              obtain ⟨rfl, rfl, _⟩ := rd_inj h'
              exact ⟨by decide, by omega, fun e => absurd e (by decide)⟩
        · simp only [h3] at h
          by_cases h4 : signV (b :: r) = 0
          · simp [h4] at h
          · have h' : Rd.tok 5 ((b :: r).take (signV (b :: r))) ((b :: r).drop (signV (b :: r))) = Rd.tok k t rest := by simpa [h4] using h
            obtain ⟨rfl, rfl, _⟩ := rd_inj h'
            refine ⟨by decide, ?_, fun e => absurd e (by decide)⟩
            have := List.length_take_le (signV (b :: r)) (b :: r)
            have h5 := List.length_take_le' (signV (b :: r)) (b :: r)
            omega
theorem lexGo_ok : ∀ (f : Nat) (l : List UInt8) (li co n : Nat) (ts : List Tok), l.length <= 65536 -> n <= 8192 -> lexGo f l li co n = .inl ts -> TsOk ts /\ ts.length + n <= 8193
  | 0, _, _, _, _, _, _, _, h => by cases h
  | f + 1, l, li, co, n, ts, hl, hn, h => by
    obtain ⟨r, li', co', hs⟩ : ∃ r li' co', skipV false l li co = (r, li', co') := ⟨_, _, _, rfl⟩
    have hsuf := skip_suffix false l li co
    rw [hs] at hsuf
    have hrl : r.length <= 65536 := Nat.le_trans hsuf.length_le hl
    by_cases hr : r = []
    · subst hr
      rw [Lx.lexGo_end hs] at h
      injection h with h
      rw [<- h]
      exact ⟨⟨rfl, Nat.zero_le _⟩, by simp; omega⟩
    · cases he : readV r with
      | inl e => rw [Lx.lexGo_bad hs hr he] at h; cases h
      | inr p =>
        obtain ⟨k, t, rest⟩ := p
        by_cases hn2 : n = 8192
        · subst hn2
          rw [Lx.lexGo_many hs hr he] at h
          cases h
        · rw [Lx.lexGo_tok hs hr he hn2] at h
          have hrest : rest.length <= 65536 := by
            obtain ⟨c, hc, _⟩ := readV_rest he
            have := congrArg List.length hc
            rw [List.length_append] at this
            omega
          cases hg : lexGo f rest li' (co' + (r.length - rest.length)) (n + 1) with
          | inr e => rw [hg] at h; cases h
          | inl ts' =>
            obtain ⟨h1, h2⟩ := lexGo_ok f rest li' _ (n + 1) ts' hrest (by omega) hg
            rw [hg] at h
            injection h with h
            rw [<- h]
            refine ⟨?_, by simp; omega⟩
            match ts', h1 with
            | u :: r', h1 => exact ⟨read_ok hrl he, h1⟩
theorem read_bad {l : List UInt8} {e : Int} (h : readV l = .bad e) : e ≠ 0 := by
  match l, h with
  | [], h => injection h with h; rw [<- h]; decide
  | b :: r, h =>
    unfold readV at h
    by_cases h1 : isLet b = true
    · simp only [h1, if_true] at h
      by_cases h2 : 32 < ((b :: r).takeWhile inNm).length
      · rw [if_pos h2] at h; injection h with h; rw [<- h]; decide
      · rw [if_neg h2] at h; cases h
    · simp only [h1] at h
      by_cases h2 : isDig b = true
      · simp only [h2, if_true] at h
        cases hp : parseV ((b :: r).takeWhile isDig) with
        | none =>
          have h' : Rd.bad 3 = Rd.bad e := by simpa [hp] using h
          injection h' with h'; rw [<- h']; decide
        | some N => simp [hp] at h
      · simp only [h2] at h
        by_cases h3 : b = 34
        · simp only [h3, if_true] at h
          cases hs : strV r [] with
          | none =>
            have h' : Rd.bad 4 = Rd.bad e := by simpa [hs] using h
            injection h' with h'; rw [<- h']; decide
          | some p =>
            obtain ⟨said, rs⟩ := p
            simp only [hs] at h
            by_cases h4 : 256 < said.length
            · have h' : Rd.bad 2 = Rd.bad e := by simpa [h4] using h
              injection h' with h'; rw [<- h']; decide
            · simp [h4] at h
        · simp only [h3] at h
          by_cases h4 : signV (b :: r) = 0
          · have h' : Rd.bad 5 = Rd.bad e := by simpa [h4] using h
            injection h' with h'; rw [<- h']; decide
          · simp [h4] at h
theorem lexGo_err : ∀ (f : Nat) (l : List UInt8) (li co n : Nat) (x : Int) (a b : Nat), l.length < f -> lexGo f l li co n = .inr (x, a, b) -> x ≠ 0
  | 0, _, _, _, _, _, _, _, hf, _ => absurd hf (Nat.not_lt_zero _)
  | f + 1, l, li, co, n, x, a, b, hf, h => by
    obtain ⟨r, li', co', hs⟩ : ∃ r li' co', skipV false l li co = (r, li', co') := ⟨_, _, _, rfl⟩
    have hsuf := skip_suffix false l li co
    rw [hs] at hsuf
    have hrl := hsuf.length_le
    simp only at hrl
    by_cases hr : r = []
    · subst hr
      rw [Lx.lexGo_end hs] at h
      cases h
    · cases he : readV r with
      | inl e =>
        rw [Lx.lexGo_bad hs hr he] at h
        injection h with h
        injection h with h
        rw [<- h]
        exact read_bad he
      | inr p =>
        obtain ⟨k, t, rest⟩ := p
        by_cases hn2 : n = 8192
        · subst hn2
          rw [Lx.lexGo_many hs hr he] at h
          injection h with h
          injection h with h
          rw [<- h]
          decide
        · rw [Lx.lexGo_tok hs hr he hn2] at h
          cases hg : lexGo f rest li' (co' + (r.length - rest.length)) (n + 1) with
          | inl ts => rw [hg] at h; cases h
          | inr e =>
            obtain ⟨x', a', b'⟩ := e
            rw [hg] at h
            injection h with h
            injection h with h
            rw [<- h]
            have hlt : rest.length < r.length := by
              obtain ⟨c, hc, hne⟩ := readV_rest he
              have := congrArg List.length hc
              rw [List.length_append] at this
              have := List.length_pos_iff.2 hne
              omega
            exact lexGo_err f rest _ _ _ x' a' b' (by omega) hg
theorem lex_err {l : List UInt8} {x : Int} {a b : Nat} (h : lexV l = .inr (x, a, b)) : x ≠ 0 := by
  unfold lexV at h
  by_cases hl : 65536 < l.length
  · rw [if_pos hl] at h
    injection h with h
    injection h with h
    rw [<- h]
    decide
  · rw [if_neg hl] at h
    exact lexGo_err _ l 1 1 0 x a b (Nat.lt_succ_self _) h
theorem tsOk_at : ∀ {ts : List Tok}, TsOk ts -> ∀ a (h : a < ts.length), (ts[a].kind ≠ 0 -> a + 1 < ts.length) /\ ts[a].text.length <= 70000 /\ (ts[a].kind = 2 -> ts[a].text ≠ [58])
  | [], h, _, _ => h.elim
  | [t], h, 0, _ => ⟨fun e => absurd h.1 e, h.2, fun e => by have := h.1; have e' : t.kind = 2 := e; rw [e'] at this; cases this⟩
  | t :: u :: r, h, 0, _ => ⟨fun _ => by simp, h.1.2.1, h.1.2.2⟩
  | t :: u :: r, h, a + 1, ha => by
    have := tsOk_at h.2 a (by simpa using ha)
    exact ⟨fun e => by have := this.1 e; simpa using this, this.2⟩
theorem lex_toks {l : List UInt8} {ts : List Tok} (h : lexV l = .inl ts) : ToksOk ts := by
  unfold lexV at h
  by_cases hl : 65536 < l.length
  · rw [if_pos hl] at h; cases h
  · rw [if_neg hl] at h
    obtain ⟨h1, h2⟩ := lexGo_ok _ l 1 1 0 ts (by omega) (by omega) h
    have hat := fun a ha => tsOk_at h1 a ha
    have htk : ∀ a (ha : a < ts.length), tkA ts a = ts[a] := fun a ha => by
      unfold tkA
      rw [List.getD_eq_getElem?_getD, List.getElem?_eq_getElem ha]
      rfl
    refine ⟨fun a ha hk => ?_, ?_, by omega, fun a => ?_, fun a ha hk => ?_⟩
    · rw [htk a ha] at hk
      exact (hat a ha).1 hk
    · cases ts with
      | nil => exact h1.elim
      | cons t r => simp
    · by_cases ha : a < ts.length
      · rw [htk a ha]
        exact (hat a ha).2.1
      · unfold tkA
        rw [List.getD_eq_getElem?_getD, List.getElem?_eq_none (by omega)]
        simp
    · rw [htk a ha] at hk ⊢
      exact (hat a ha).2.2 hk
end Go.Proofs.YtlhmofphpfdjlaaGreatDoor
/- lex.rowEnd by a contract: the end of the longest row of bytes that belong. -/
namespace Go.Proofs.YtlhmofphpfdjlaaGreatDoor.Lx
open Go.Proofs.Tryz
open Go.RowKit
/-- The end of the longest row of bytes that belong, from k on. -/
def rowV (s : ByteArray) (k : Nat) (p : UInt8 -> Bool) : Nat := k + ((s.data.toList.drop k).takeWhile p).length
theorem rowV_le (s : ByteArray) (k : Nat) (p : UInt8 -> Bool) (hk : k <= s.size) : rowV s k p <= s.size := by
  unfold rowV
  have h : ((s.data.toList.drop k).takeWhile p).length <= (s.data.toList.drop k).length := (List.takeWhile_sublist p).length_le
  rw [List.length_drop, byteArray_len] at h
  omega
theorem rowV_on {s : ByteArray} {k : Nat} {p : UInt8 -> Bool} (hk : k < s.size) (h : p s[k] = true) : rowV s k p = rowV s (k + 1) p := by
  unfold rowV
  rw [byteArray_drop s k hk, List.takeWhile_cons_of_pos h, List.length_cons]
  omega
theorem rowV_off {s : ByteArray} {k : Nat} {p : UInt8 -> Bool} (hk : k < s.size) (h : p s[k] = false) : rowV s k p = k := by
  unfold rowV
  rw [byteArray_drop s k hk, List.takeWhile_cons_of_neg (by rw [h]; decide)]
  rfl
theorem rowV_end {s : ByteArray} {k : Nat} {p : UInt8 -> Bool} (hk : ¬ k < s.size) : rowV s k p = k := by
  unfold rowV
  rw [List.drop_eq_nil_of_le (by rw [byteArray_len]; omega)]
  rfl
theorem rowEnd_name (s : ByteArray) (hs : s.size <= 140737488351232) (k : Nat) (hk : k <= s.size) (w : World) :
    Calls prog 84 #[.string s, .int .i64 k, .func (.func 88) #[] #[]] w fun e w' => e = .returned (.int .i64 (rowV s k inNm)) /\ w' = w := by
  go_enter func84, ntmps84
  go_wp2
  go_loop [7] (fun i => ∃ m : Nat, m <= s.size /\ i = .int .i64 m /\ rowV s k inNm = rowV s m inNm) (fun i => s.size - (intOf i).toNat)
  case atStart => exact ⟨k, hk, rfl, rfl⟩
  case round =>
    obtain ⟨m, hm, rfl, hrow⟩ := hrel
    have HR := hideP hrow
    clear hrow
    by_cases hlt : m < s.size
    · have hc := inName_c s[m]
      have hyes := rowV_on (p := inNm) hlt
      have hno := rowV_off (p := inNm) hlt
      cases hp : inNm s[m]
      · rw [hp] at hc
        have E := hideP (hno hp)
        have HC := hideP hc
        clear hyes hno hp hc
        go_wp2_with fail
        refine (HC.out _).mono ?_
        rintro e w' ⟨rfl, rfl⟩
        go_wp2
        go_ret
        rw [HR.out, E.out]
        exact ⟨rfl, rfl⟩
      · rw [hp] at hc
        have E := hideP (hyes hp)
        have HC := hideP hc
        clear hyes hno hp hc
        go_wp2_with fail
        refine (HC.out _).mono ?_
        rintro e w' ⟨rfl, rfl⟩
        go_wp2
        go_round
        case rel => exact ⟨m + 1, by omega, by go_num, HR.out.trans E.out⟩
        case measure => simp [intOf]; omega
    · go_wp2
      go_ret
      rw [HR.out, rowV_end hlt]
      exact ⟨rfl, rfl⟩
theorem rowEnd_digit (s : ByteArray) (hs : s.size <= 140737488351232) (k : Nat) (hk : k <= s.size) (w : World) :
    Calls prog 84 #[.string s, .int .i64 k, .func (.func 90) #[] #[]] w fun e w' => e = .returned (.int .i64 (rowV s k isDig)) /\ w' = w := by
  go_enter func84, ntmps84
  go_wp2
  go_loop [7] (fun i => ∃ m : Nat, m <= s.size /\ i = .int .i64 m /\ rowV s k isDig = rowV s m isDig) (fun i => s.size - (intOf i).toNat)
  case atStart => exact ⟨k, hk, rfl, rfl⟩
  case round =>
    obtain ⟨m, hm, rfl, hrow⟩ := hrel
    have HR := hideP hrow
    clear hrow
    by_cases hlt : m < s.size
    · have hc := isDigit_c s[m]
      have hyes := rowV_on (p := isDig) hlt
      have hno := rowV_off (p := isDig) hlt
      cases hp : isDig s[m]
      · rw [hp] at hc
        have E := hideP (hno hp)
        have HC := hideP hc
        clear hyes hno hp hc
        go_wp2_with fail
        refine (HC.out _).mono ?_
        rintro e w' ⟨rfl, rfl⟩
        go_wp2
        go_ret
        rw [HR.out, E.out]
        exact ⟨rfl, rfl⟩
      · rw [hp] at hc
        have E := hideP (hyes hp)
        have HC := hideP hc
        clear hyes hno hp hc
        go_wp2_with fail
        refine (HC.out _).mono ?_
        rintro e w' ⟨rfl, rfl⟩
        go_wp2
        go_round
        case rel => exact ⟨m + 1, by omega, by go_num, HR.out.trans E.out⟩
        case measure => simp [intOf]; omega
    · go_wp2
      go_ret
      rw [HR.out, rowV_end hlt]
      exact ⟨rfl, rfl⟩
theorem rowEnd_lf (s : ByteArray) (hs : s.size <= 140737488351232) (k : Nat) (hk : k <= s.size) (w : World) :
    Calls prog 84 #[.string s, .int .i64 k, .func (.func 85) #[] #[]] w fun e w' => e = .returned (.int .i64 (rowV s k notLf)) /\ w' = w := by
  go_enter func84, ntmps84
  go_wp2
  go_loop [7] (fun i => ∃ m : Nat, m <= s.size /\ i = .int .i64 m /\ rowV s k notLf = rowV s m notLf) (fun i => s.size - (intOf i).toNat)
  case atStart => exact ⟨k, hk, rfl, rfl⟩
  case round =>
    obtain ⟨m, hm, rfl, hrow⟩ := hrel
    have HR := hideP hrow
    clear hrow
    by_cases hlt : m < s.size
    · have hc := notLf_c s[m]
      have hyes := rowV_on (p := notLf) hlt
      have hno := rowV_off (p := notLf) hlt
      cases hp : notLf s[m]
      · rw [hp] at hc
        have E := hideP (hno hp)
        have HC := hideP hc
        clear hyes hno hp hc
        go_wp2_with fail
        refine (HC.out _).mono ?_
        rintro e w' ⟨rfl, rfl⟩
        go_wp2
        go_ret
        rw [HR.out, E.out]
        exact ⟨rfl, rfl⟩
      · rw [hp] at hc
        have E := hideP (hyes hp)
        have HC := hideP hc
        clear hyes hno hp hc
        go_wp2_with fail
        refine (HC.out _).mono ?_
        rintro e w' ⟨rfl, rfl⟩
        go_wp2
        go_round
        case rel => exact ⟨m + 1, by omega, by go_num, HR.out.trans E.out⟩
        case measure => simp [intOf]; omega
    · go_wp2
      go_ret
      rw [HR.out, rowV_end hlt]
      exact ⟨rfl, rfl⟩
end Go.Proofs.YtlhmofphpfdjlaaGreatDoor.Lx
/- Inserts into a map in whatever order: a law for a region that draws. -/
namespace Go.Proofs.YtlhmofphpfdjlaaGreatDoor.Lx
open Go.Proofs.Tryz
open Go.RowKit Go.Maps
/-- The inserts that are left, beside the two last operations. -/
def Left (top : Nat) (todo : List Nat) (listed : Array Bool) : Prop := ∀ j, listed.getD j true = false ↔ (j ∈ todo ∨ j = top ∨ j = top + 1)
theorem left_size {top : Nat} {todo : List Nat} {listed : Array Bool} (h : Left top todo listed) {j : Nat} (hj : j ∈ todo) : j < listed.size := by
  have := (h j).2 (.inl hj)
  rcases Nat.lt_or_ge j listed.size with h' | h'
  · exact h'
  · simp [h'] at this
theorem left_getD {listed : Array Bool} {j : Nat} (hj : listed.getD j true = false) : listed.getD j false = false := by
  rcases Nat.lt_or_ge j listed.size with h' | h'
  · simp [h'] at hj ⊢; exact hj
  · simp [h']
theorem left_set {top : Nat} {todo : List Nat} {listed : Array Bool} (h : Left top todo listed) (hn : todo.Nodup) {i : Nat} (hi : i ∈ todo) (ht : ∀ j ∈ todo, j < top) : Left top (todo.erase i) (listed.setIfInBounds i true) := by
  intro j
  by_cases hij : i = j
  · subst hij
    have hlt := left_size h hi
    constructor
    · intro h2
      simp [hlt] at h2
    · rintro (h2 | h2 | h2)
      · exact absurd h2 hn.not_mem_erase
      · have := ht i hi; omega
      · have := ht i hi; omega
  · rw [getD_set_ne true hij, h j, List.mem_erase_of_ne (Ne.symm hij)]
section
variable {P : Program} {ops : Array Oper} {Q : Exit -> Act -> World -> Prop} {a : Act}
theorem wpAny_inserts (B t k e top fuel : Nat) (K : Keyed P k) (ht : P.underlying t = some (.map k e)) (I : List Nat) (X : Nat -> Value) (kl : Nat -> Lit)
    (hop : ∀ i ∈ I, i < top /\ ∃ o m x u, ops[i]? = some o /\ o.guard = none /\ o.dst = none /\ o.op = .insert t m x u /\ a.eval m = .map (some B) /\ a.eval x = X i /\ a.eval u = .agg #[] /\ keyOf P k (X i) = some (kl i) /\ ∀ y ∈ o.after, y.on < top /\ y.on ∉ I)
    (htop : ∃ o, ops[top]? = some o /\ ∀ j ∈ I, ∃ y ∈ o.after, y.on = j /\ Region.binds .any y = true)
    (hnext : ∃ o, ops[top + 1]? = some o /\ ∃ y ∈ o.after, y.on = top /\ Region.binds .any y = true)
    (w0 : World) (hB : w0.heap.size <= B)
    (sz : Nat) (hfin : ∀ listed w D, listed.size = sz -> Left top [] listed -> w.ownsMap (H := Unit) P k unitElem B (I.length + 0) D -> Below w0.heap.size w0 w -> (∀ key, Maps.has D key = true ↔ ∃ i ∈ I, kl i = key) -> wpAny P .any ops Q fuel listed a w) :
    ∀ (n m : Nat) (todo : List Nat) (listed : Array Bool) (w : World) (D : DataW Unit), todo.length = n -> listed.size = sz -> Left top todo listed -> todo.Nodup -> (∀ i ∈ todo, i ∈ I) ->
      w.ownsMap P k unitElem B m D -> m + n = I.length -> I.length < 100 -> Below w0.heap.size w0 w -> (∀ i ∈ I, i ∉ todo -> Maps.has D (kl i) = true) -> (∀ key, Maps.has D key = true -> ∃ i ∈ I, kl i = key) ->
      wpAny P .any ops Q (n + fuel) listed a w := by
  intro n
  induction n with
  | zero =>
    intro m todo listed w D hl hsz hL hn hI hown hm hlen hb h1 h2
    have : todo = [] := List.eq_nil_of_length_eq_zero hl
    subst this
    rw [Nat.zero_add]
    refine hfin listed w D hsz hL (hown.mono (by omega)) hb fun key => ⟨h2 key, ?_⟩
    rintro ⟨i, hi, rfl⟩
    exact h1 i hi (by simp)
  | succ n ih =>
    intro m todo listed w D hl hsz hL hn hI hown hm hlen hb h1 h2
    rw [show n + 1 + fuel = (n + fuel) + 1 from by omega]
    have hmem : ∀ i ∈ Region.ready .any ops listed, i ∈ todo := by
      intro i hi
      obtain ⟨hf, o, ho, hall⟩ := mem_ready.1 hi
      rcases (hL i).1 hf with h | rfl | rfl
      · exact h
      · exfalso
        obtain ⟨o', ho', hj⟩ := htop
        rw [ho] at ho'
        cases ho'
        cases todo with
        | nil => simp at hl
        | cons j r =>
          obtain ⟨y, hy, hon, hbi⟩ := hj j (hI j (by simp))
          have h3 := hall y hy hbi
          rw [hon, left_getD ((hL j).2 (.inl (by simp)))] at h3
          cases h3
      · exfalso
        obtain ⟨o', ho', y, hy, hon, hbi⟩ := hnext
        rw [ho] at ho'
        cases ho'
        have h3 := hall y hy hbi
        rw [hon, left_getD ((hL top).2 (.inr (.inl rfl)))] at h3
        cases h3
    refine ⟨?_, ?_⟩
    · intro h0
      exfalso
      cases todo with
      | nil => simp at hl
      | cons j r =>
        obtain ⟨hjt, o, m', x, u, ho, _, _, _, _, _, _, _, haft⟩ := hop j (hI j (by simp))
        have hr : j ∈ Region.ready .any ops listed := by
          refine mem_ready.2 ⟨(hL j).2 (.inl (by simp)), o, ho, fun y hy _ => ?_⟩
          obtain ⟨hy1, hy2⟩ := haft y hy
          have hts : top < listed.size := by
            have := (hL top).2 (.inr (.inl rfl))
            rcases Nat.lt_or_ge top listed.size with h' | h'
            · exact h'
            · simp [h'] at this
          have hne : ¬ listed.getD y.on true = false := by
            rw [hL y.on]
            rintro (h | h | h)
            · exact hy2 (hI _ h)
            · omega
            · omega
          have hys : y.on < listed.size := by omega
          simp [hys] at hne ⊢
          exact hne
        rw [h0] at hr
        cases hr
    · intro i hi
      have hit := hmem i hi
      obtain ⟨hjt, o, m', x, u, ho, hg, hd, hop', hem, hex, heu, hkey, _⟩ := hop i (hI i hit)
      obtain ⟨w', hrun, hown', hgrow⟩ := hown.update K ht (by unfold maxLen; omega) hkey unitElem_mk
      unfold wpOp
      rw [ho]
      have hw : Region.wanted o (yielded ops a.tmps) = true := by simp [Region.wanted, hg]
      simp only [hw, if_true]
      refine .inl ?_
      unfold Oper.wp
      simp [execOp, hop', hem, hex, heu, hrun, Result.andThen, Oper.upon]
      have ea : a.put o.dst undef = a := by rw [hd]; rfl
      rw [ea]
      have hl2 : (todo.erase i).length = n := by rw [List.length_erase_of_mem hit]; omega
      refine ih (m + 1) (todo.erase i) (listed.setIfInBounds i true) w' _ hl2 (by rw [Array.size_setIfInBounds]; exact hsz) (left_set hL hn hit fun j hj => (hop j (hI j hj)).1) (hn.erase i) (fun j hj => hI j (List.mem_of_mem_erase hj)) hown' (by omega) hlen
        (hb.grown hgrow (by exact hb.size) (fun j hj => by cases hj; exact hB)) ?_ ?_
      · intro j hj hjn
        by_cases hk : kl j = kl i
        · rw [hk]; exact has_put_same hown.isMap (K.key hkey) _
        · rw [has_put_other hk]
          refine h1 j hj fun hjt => hjn ?_
          rw [List.mem_erase_of_ne]
          · exact hjt
          · rintro rfl; exact hk rfl
      · intro key hkey2
        by_cases hk : key = kl i
        · exact ⟨i, hI i hit, hk.symm⟩
        · rw [has_put_other hk] at hkey2
          exact h2 key hkey2
end
end Go.Proofs.YtlhmofphpfdjlaaGreatDoor.Lx
