/- Two texts with blanks between, and tokens that are written anew: the whole texts; without a program in sight. -/
import Derived.Test.YtgoppgopnhmhfaaDoorPlaceV
namespace Go.Proofs.YtgoppgopnhmhfaaDoor

/-- What stands between. -/
def sepV : List UInt8 := [10, 32, 35, 32, 97, 32, 114, 101, 109, 97, 114, 107, 32, 10, 9, 13, 32]

theorem lex_blanks {a b : List UInt8} {xs ys : List Tok} (hx : lexV a = .toks xs) (hy : lexV b = .toks ys) (ha : a.length ≤ 2000) (hb : b.length ≤ 2000) :
    ∃ ini L C ys2, xs = ini ++ [⟨0, [], L, C⟩] ∧ ys2.map Tok.kt = ys.map Tok.kt ∧ lexV (a ++ sepV ++ b) = .toks (ini ++ ys2) := by
  obtain ⟨ca, _, _⟩ := chain_of_lex hx
  obtain ⟨cb, _, _⟩ := chain_of_lex hy
  have la := chain_len ca
  have lb := chain_len cb
  obtain ⟨ini, L, C, hxs, hz⟩ := chain_append ca
  obtain ⟨ys2, cb2, hk⟩ := chain_moved cb (L + 2) 4
  have hl2 : ys2.length = ys.length := by simpa using congrArg List.length hk
  refine ⟨ini, L, C, ys2, hxs, hk, ?_⟩
  have e : a ++ sepV ++ b = a ++ 10 :: ([32, 35, 32, 97, 32, 114, 101, 109, 97, 114, 107, 32, 10, 9, 13, 32] ++ b) := by simp [sepV]
  have hc : Chain ([32, 35, 32, 97, 32, 114, 101, 109, 97, 114, 107, 32, 10, 9, 13, 32] ++ b) (L + 1) 1 ys2 := chain_congr cb2 (by simp [skipV])
  have hin : ini.length + 1 = xs.length := by rw [hxs]; simp
  rw [e]
  refine lex_of_chain (hz _ _ hc) ?_ ?_
  · simp
    omega
  · simp
    omega

theorem strV_len {l acc said rest : List UInt8} (h : strV l acc = some (said, rest)) : said.length + 1 + rest.length ≤ acc.length + l.length := by
  revert h
  refine strV_cases (P := fun l acc => strV l acc = some (said, rest) → said.length + 1 + rest.length ≤ acc.length + l.length) ?_ ?_ ?_ ?_ ?_ ?_ ?_ l acc
  · intro acc h; cases h
  · intro r acc h
    rw [strV_shut] at h
    injection h with h
    injection h with h1 h2
    rw [← h1, ← h2]
    simp
    omega
  · intro b r acc hb h; rw [strV_low hb] at h; cases h
  · intro acc h; rw [strV_cut] at h; cases h
  · intro c r acc hc h; rw [strV_none hc] at h; cases h
  · intro c x r acc hc ih h
    rw [strV_some hc] at h
    have := ih h
    simp at this ⊢
    omega
  · intro b r acc a1 a2 a3 ih h
    rw [strV_on a1 a2 a3] at h
    have := ih h
    simp at this ⊢
    omega

theorem write_len {l t rest : List UInt8} {k : Int} (h : readV l = .tok k t rest) : (writeV k t).length + 2 * rest.length ≤ 2 * l.length := by
  by_cases hk : k = 4
  · obtain ⟨b, r, rfl, ⟨_, _, _, _, hk2⟩ | ⟨_, _, _, _, _, hk2⟩ | ⟨_, hs, _, _⟩ | ⟨_, _, _, _, _, _, hk2⟩⟩ := readV_ways h
    · rw [hk] at hk2
      split at hk2 <;> cases hk2
    · rw [hk] at hk2; cases hk2
    · have h1 := strV_len hs
      have h2 := quote_len t
      unfold writeV
      rw [if_pos hk]
      simp at h1 ⊢
      omega
    · rw [hk] at hk2; cases hk2
  · obtain ⟨c, e, _, ht⟩ := read_place h
    unfold writeV
    rw [if_neg hk, ht hk, e, List.length_append]
    omega

theorem writeAll_len {l : List UInt8} {li co : Nat} {ts : List Tok} (h : Chain l li co ts) : (writeAll ts).length ≤ ts.length + 2 * l.length := by
  induction ts generalizing l li co with
  | nil => exact (chain_none h).elim
  | cons a0 ts ih0 =>
    have hw := chain_ways h
    clear h
    rcases hw with ⟨rfl, li', co', h, rfl⟩ | ⟨r, t, rest, li', co', k, h, hr, he, rfl, hc⟩
    · simp [writeAll, writeV]
    · have ih := ih0 hc
      have h1 := write_len he
      have h2 := skip_le h
      have e : writeAll (⟨k, t, li', co'⟩ :: ts) = 32 :: (writeV k t ++ writeAll ts) := by simp [writeAll]
      rw [e, List.length_cons, List.length_append, List.length_cons]
      omega

theorem lex_again {a : List UInt8} {xs : List Tok} (hx : lexV a = .toks xs) (ha : a.length ≤ 3000) : (writeAll xs).length ≤ 65536 ∧ ∃ ys, ys.map Tok.kt = xs.map Tok.kt ∧ lexV (writeAll xs) = .toks ys := by
  obtain ⟨ca, _, h8⟩ := chain_of_lex hx
  have la := chain_len ca
  have wl := writeAll_len ca
  obtain ⟨ys, cy, hk⟩ := chain_written ca 1 1
  have hl2 : ys.length = xs.length := by simpa using congrArg List.length hk
  exact ⟨by omega, ys, hk, lex_of_chain cy (by omega) (by omega)⟩
end Go.Proofs.YtgoppgopnhmhfaaDoor
