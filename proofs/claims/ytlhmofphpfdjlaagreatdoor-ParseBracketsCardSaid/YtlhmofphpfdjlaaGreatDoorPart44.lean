/- Part. -/
import Derived.Test.YtlhmofphpfdjlaaGreatDoorPart29
set_option maxRecDepth 100000
set_option maxHeartbeats 4000000
/- An expression's text within brackets, a line on: its tokens; no program. -/
namespace Go.Proofs.YtlhmofphpfdjlaaGreatDoor.Br
open Go.Proofs.Tryz
open Go.RowKit
def upT (t : Tok) : Tok := ⟨t.kind, t.text, t.line + 1, t.col⟩
theorem skip_nil (b : Bool) (li co : Nat) : skipV b [] li co = ([], li, co) := by cases b <;> rfl
theorem skip_more (z : List UInt8) : ∀ (l : List UInt8) (b : Bool) (li co : Nat),
    (∀ x r li' co', skipV b l li co = (x :: r, li', co') -> skipV b (l ++ (10 :: z)) (li + 1) co = (x :: r ++ (10 :: z), li' + 1, co')) /\
    (∀ li' co', skipV b l li co = ([], li', co') -> skipV b (l ++ (10 :: z)) (li + 1) co = skipV false z (li' + 2) 1)
  | [], b, li, co => by
    refine ⟨fun x r li' co' h => ?_, fun li' co' h => ?_⟩
    · cases b <;> simp [skipV] at h
    · rw [skip_nil] at h
      injection h with _ h
      injection h with h1 h2
      subst h1
      cases b <;> simp [skipV]
  | y :: l, true, li, co => by
    simp only [List.cons_append, skipV]
    split
    · exact skip_more z l false (li + 1) 1
    · exact skip_more z l true li (co + 1)
  | y :: l, false, li, co => by
    simp only [List.cons_append, skipV]
    split
    · exact skip_more z l false (li + 1) 1
    · split
      · exact skip_more z l false li (co + 1)
      · split
        · exact skip_more z l true li (co + 1)
        · refine ⟨fun x r li' co' h => ?_, fun li' co' h => ?_⟩
          · injection h with h1 h2
            injection h1 with h3 h4
            injection h2 with h5 h6
            subst h3 h4 h5 h6
            rfl
          · injection h with h1 h2
            cases h1
theorem str_more (z : List UInt8) : ∀ (n : Nat) (l : List UInt8), l.length <= n -> ∀ acc : List UInt8,
    (∀ s r, strV l acc = some (s, r) -> strV (l ++ (10 :: z)) acc = some (s, r ++ (10 :: z))) /\ (strV l acc = none -> strV (l ++ (10 :: z)) acc = none)
  | _, [], _, acc => by
    refine ⟨fun s r h => by simp [strV] at h, fun _ => ?_⟩
    show strV (10 :: _) acc = none
    unfold strV
    rw [if_neg (by decide), if_pos (by decide)]
  | 0, _ :: _, h, _ => by simp at h
  | n + 1, b :: l, hn, acc => by
    simp only [List.cons_append]
    unfold strV
    split
    · refine ⟨fun s r h => ?_, fun h => by cases h⟩
      injection h with h
      injection h with h1 h2
      rw [h1, h2]
    · split
      · exact ⟨fun s r h => (by cases h), fun _ => rfl⟩
      · split
        · cases l with
          | nil =>
            refine ⟨fun s r h => (by cases h), fun _ => ?_⟩
            show (match unescV 10 with | none => none | some x => strV z (acc ++ [x])) = none
            rfl
          | cons c l =>
            show (∀ s r, (match unescV c with | none => none | some x => strV l (acc ++ [x])) = some (s, r) -> (match unescV c with | none => none | some x => strV (l ++ (10 :: z)) (acc ++ [x])) = some (s, r ++ (10 :: z))) /\ ((match unescV c with | none => none | some x => strV l (acc ++ [x])) = none -> (match unescV c with | none => none | some x => strV (l ++ (10 :: z)) (acc ++ [x])) = none)
            cases unescV c with
            | none => exact ⟨fun s r h => (by cases h), fun _ => rfl⟩
            | some x => exact str_more z n l (by simp at hn; omega) _
        · exact str_more z n l (by simp at hn; omega) _
theorem take_more (z : List UInt8) (p : UInt8 -> Bool) (h10 : p 10 = false) : ∀ l : List UInt8, (l ++ (10 :: z)).takeWhile p = l.takeWhile p /\ (l ++ (10 :: z)).dropWhile p = l.dropWhile p ++ (10 :: z)
  | [] => by
    show (10 :: _ : List UInt8).takeWhile p = _ /\ (10 :: _ : List UInt8).dropWhile p = _
    rw [List.takeWhile_cons, List.dropWhile_cons, h10]
    exact ⟨rfl, rfl⟩
  | x :: l => by
    obtain ⟨h1, h2⟩ := take_more z p h10 l
    simp only [List.cons_append, List.takeWhile_cons, List.dropWhile_cons]
    rw [h1, h2]
    cases p x <;> exact ⟨rfl, rfl⟩
theorem sign_more (z : List UInt8) (x : UInt8) (l : List UInt8) : signV (x :: (l ++ (10 :: z))) = signV (x :: l) := by
  cases l with
  | nil =>
    show (if twoV.contains (x, 10) = true then 2 else if oneV.contains x = true then 1 else 0) = (if oneV.contains x = true then 1 else 0)
    have : twoV.contains (x, 10) = false := by simp [twoV]
    rw [this]
    rfl
  | cons y l => rfl
theorem sign_le (x : UInt8) (l : List UInt8) : signV (x :: l) <= (x :: l).length := by
  cases l with
  | nil =>
    show (if _ then 1 else 0) <= _
    split <;> simp
  | cons y l =>
    show (if _ then 2 else if _ then 1 else 0) <= _
    simp only [List.length_cons]
    split
    · omega
    · split <;> omega
theorem read_more (z : List UInt8) (x : UInt8) (l : List UInt8) : (∀ e, readV (x :: l) = .inl e -> readV (x :: l ++ (10 :: z)) = .inl e) /\ ∀ k t r, readV (x :: l) = .inr (k, t, r) -> readV (x :: l ++ (10 :: z)) = .inr (k, t, r ++ (10 :: z)) := by
  have n10 := take_more z inNm (by decide) (x :: l)
  have d10 := take_more z isDig (by decide) (x :: l)
  have s10 := str_more z l.length l (Nat.le_refl _) []
  have g10 := sign_more z x l
  have gl := sign_le x l
  simp only [List.cons_append] at n10 d10 ⊢
  unfold readV
  simp only
  rw [n10.1, n10.2, d10.1, d10.2, g10]
  split
  · split
    · exact ⟨fun e h => h, fun k t r h => by cases h⟩
    · refine ⟨fun e h => (by cases h), fun k t r h => ?_⟩
      obtain ⟨h1, h2, h3⟩ := rd_inj h
      rw [<- h1, <- h2, <- h3]
  · split
    · cases parseV ((x :: l).takeWhile isDig) with
      | none => exact ⟨fun e h => h, fun k t r h => by cases h⟩
      | some z =>
        refine ⟨fun e h => (by cases h), fun k t r h => ?_⟩
        obtain ⟨h1, h2, h3⟩ := rd_inj h
        rw [<- h1, <- h2, <- h3]
    · split
      · cases hs : strV l [] with
        | none =>
          rw [s10.2 hs]
          exact ⟨fun e h => h, fun k t r h => by cases h⟩
        | some y =>
          obtain ⟨s, r'⟩ := y
          rw [s10.1 s r' hs]
          simp only
          split
          · exact ⟨fun e h => h, fun k t r h => by cases h⟩
          · refine ⟨fun e h => (by cases h), fun k t r h => ?_⟩
            obtain ⟨h1, h2, h3⟩ := rd_inj h
            rw [<- h1, <- h2, <- h3]
      · split
        · exact ⟨fun e h => h, fun k t r h => by cases h⟩
        · refine ⟨fun e h => (by cases h), fun k t r h => ?_⟩
          obtain ⟨h1, h2, h3⟩ := rd_inj h
          rw [<- h1, <- h2, <- h3, <- List.cons_append, List.take_append_of_le_length gl, List.drop_append_of_le_length gl]
theorem read_kind {x : UInt8} {l t r : List UInt8} {k : Int} (h : readV (x :: l) = .inr (k, t, r)) : k ≠ 0 := by
  unfold readV at h
  simp only at h
  split at h
  · split at h
    · cases h
    · obtain ⟨h1, _, _⟩ := rd_inj h
      rw [<- h1]
      split <;> decide
  · split at h
    · split at h
      · cases h
      · obtain ⟨h1, _, _⟩ := rd_inj h
        rw [<- h1]
        decide
    · split at h
      · split at h
        · cases h
        · split at h
          · cases h
          · obtain ⟨h1, _, _⟩ := rd_inj h
            rw [<- h1]
            decide
      · split at h
        · cases h
        · obtain ⟨h1, _, _⟩ := rd_inj h
          rw [<- h1]
          decide
theorem skip_line : ∀ (l : List UInt8) (b : Bool) (li co : Nat), (skipV b l li co).2.1 + (skipV b l li co).1.length <= li + l.length
  | [], b, li, co => by cases b <;> simp [skipV]
  | y :: l, true, li, co => by
    simp only [skipV, List.length_cons]
    split
    · have := skip_line l false (li + 1) 1; omega
    · have := skip_line l true li (co + 1); omega
  | y :: l, false, li, co => by
    simp only [skipV, List.length_cons]
    split
    · have := skip_line l false (li + 1) 1; omega
    · split
      · have := skip_line l false li (co + 1); omega
      · split
        · have := skip_line l true li (co + 1); omega
        · exact Nat.le_refl _
theorem lexGo_br : ∀ (f f' : Nat) (l : List UInt8) (li co n : Nat) (ts : List Tok), lexGo f l li co n = .inl ts -> l.length + 3 < f' -> n + l.length < 8000 ->
    ∃ us e p, ts = us ++ [⟨0, [], e, p⟩] /\ (∀ t ∈ us, t.kind ≠ 0 /\ t.line <= li + l.length) /\ lexGo f' (l ++ [10, 41]) (li + 1) co (n + 1) = .inl (us.map upT ++ [⟨5, [41], e + 2, 1⟩, ⟨0, [], e + 2, 2⟩])
  | 0, _, _, _, _, _, _, h, _, _ => by cases h
  | _ + 1, 0, _, _, _, _, _, _, hf, _ => absurd hf (Nat.not_lt_zero _)
  | f + 1, f' + 1, l, li, co, n, ts, h, hf, hn => by
    obtain ⟨r, li', co', hs⟩ : ∃ r li' co', skipV false l li co = (r, li', co') := ⟨_, _, _, rfl⟩
    have hm := skip_more [41] l false li co
    have hln := skip_line l false li co
    rw [hs] at hln
    simp only at hln
    have hsuf := skip_suffix false l li co
    rw [hs] at hsuf
    have hrl := hsuf.length_le
    simp only at hrl
    cases r with
    | nil =>
      have hs' := hm.2 _ _ hs
      have hs2 : skipV false (l ++ [10, 41]) (li + 1) co = ([41], li' + 2, 1) := hs'
      rw [Lx.lexGo_end hs] at h
      injection h with h
      subst h
      refine ⟨[], li', co', rfl, fun t ht => by simp at ht, ?_⟩
      have he : readV [41] = .tok 5 [41] [] := by kernel_rfl
      rw [Lx.lexGo_tok hs2 (by simp) he (by omega)]
      cases f' with
      | zero => omega
      | succ f' =>
        have h0 : skipV false [] (li' + 2) 2 = ([], li' + 2, 2) := rfl
        show Lx.pre [⟨5, [41], li' + 2, 1⟩] (lexGo (f' + 1) [] (li' + 2) 2 (n + 1 + 1)) = _
        rw [Lx.lexGo_end h0]
        rfl
    | cons x r =>
      have hs' := hm.1 _ _ _ _ hs
      have hrm := read_more [41] x r
      have hr : x :: r ≠ [] := by simp
      have hr' : x :: r ++ (10 :: [41]) ≠ [] := by simp
      cases he : readV (x :: r) with
      | inl e => rw [Lx.lexGo_bad hs hr he] at h; cases h
      | inr p =>
        obtain ⟨k, t, rest⟩ := p
        have he' := hrm.2 _ _ _ he
        have hlt : rest.length < (x :: r).length := by
          obtain ⟨c, hc, hne⟩ := readV_rest he
          have := congrArg List.length hc
          rw [List.length_append] at this
          have := List.length_pos_iff.2 hne
          omega
        rw [Lx.lexGo_tok hs hr he (by omega)] at h
        have hs2 : skipV false (l ++ [10, 41]) (li + 1) co = (x :: r ++ [10, 41], li' + 1, co') := hs'
        rw [Lx.lexGo_tok hs2 hr' he' (by omega)]
        have e : (x :: r ++ [10, 41]).length - (rest ++ [10, 41]).length = (x :: r).length - rest.length := by
          simp only [List.length_append]
          omega
        cases h2 : lexGo f rest li' (co' + ((x :: r).length - rest.length)) (n + 1) with
        | inr y => rw [h2] at h; cases h
        | inl ts2 =>
          rw [h2] at h
          injection h with h
          subst h
          obtain ⟨us, e2, p2, h3, h4, h5⟩ := lexGo_br f f' rest _ _ _ ts2 h2 (by omega) (by omega)
          refine ⟨⟨k, t, li', co'⟩ :: us, e2, p2, by rw [h3]; rfl, fun u hu => ?_, ?_⟩
          · rcases List.mem_cons.1 hu with rfl | hu
            · exact ⟨read_kind he, by show li' <= li + l.length; omega⟩
            · have h6 := h4 u hu
              exact ⟨h6.1, by have := h6.2; omega⟩
          · rw [e, h5]
            rfl
theorem lexV_br {l : List UInt8} {ts : List Tok} (h : lexV l = .inl ts) (hl : l.length <= 2000) :
    ∃ us e p, ts = us ++ [⟨0, [], e, p⟩] /\ (∀ t ∈ us, t.kind ≠ 0 /\ t.line <= 70000) /\ lexV (40 :: 10 :: (l ++ [10, 41])) = .inl (⟨5, [40], 1, 1⟩ :: (us.map upT ++ [⟨5, [41], e + 2, 1⟩, ⟨0, [], e + 2, 2⟩])) := by
  unfold lexV at h
  rw [if_neg (by omega)] at h
  have hlen : (40 :: 10 :: (l ++ [10, 41])).length = l.length + 4 := by simp
  obtain ⟨us, e, p, h1, h2, h3⟩ := lexGo_br _ (l.length + 4) l 1 1 0 ts h (by omega) (by omega)
  refine ⟨us, e, p, h1, fun t ht => ⟨(h2 t ht).1, by have := (h2 t ht).2; omega⟩, ?_⟩
  unfold lexV
  rw [if_neg (by omega), hlen]
  have he : readV (40 :: 10 :: (l ++ [10, 41])) = .tok 5 [40] (10 :: (l ++ [10, 41])) := by
    unfold readV
    dsimp only
    rw [if_neg (by decide : ¬ isLet 40 = true), if_neg (by decide : ¬ isDig 40 = true), if_neg (by decide : ¬ (40 : UInt8) = 34)]
    have : signV (40 :: 10 :: (l ++ [10, 41])) = 1 := by
      show (if twoV.contains (40, 10) = true then 2 else if oneV.contains 40 = true then 1 else 0) = 1
      decide
    rw [this, if_neg (by decide)]
    rfl
  have hs : skipV false (40 :: 10 :: (l ++ [10, 41])) 1 1 = (40 :: 10 :: (l ++ [10, 41]), 1, 1) := rfl
  rw [Lx.lexGo_tok hs (by simp) he (by decide)]
  have h4 : lexGo (l.length + 4) (10 :: (l ++ [10, 41])) 1 (1 + ((40 :: 10 :: (l ++ [10, 41])).length - (10 :: (l ++ [10, 41])).length)) (0 + 1) = lexGo (l.length + 4) (l ++ [10, 41]) 2 1 1 := by
    have : ∀ co, skipV false (10 :: (l ++ [10, 41])) 1 co = skipV false (l ++ [10, 41]) 2 1 := fun _ => rfl
    show lexGo (l.length + 3 + 1) _ _ _ _ = lexGo (l.length + 3 + 1) _ _ _ _
    unfold lexGo
    rw [this]
  rw [h4, h3]
  rfl
end Go.Proofs.YtlhmofphpfdjlaaGreatDoor.Br
