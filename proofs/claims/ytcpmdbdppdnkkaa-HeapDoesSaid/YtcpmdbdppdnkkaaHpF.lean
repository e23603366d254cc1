/- graduslaw16.few. -/
import Derived.Test.YtcpmdbdppdnkkaaHpS
namespace Go.Proofs.Ytcpmdbdppdnkkaa
open Go.RowKit

theorem OpsH.at {F : Nat → Prop} {w : World} {a : Option Addr} {n c : Nat} {l : List OpH} (h : OpsH F w (.slice a n c) l) : n = l.length ∧ ∀ i (_ : i < l.length), ∃ b o, a = some ⟨b, o, none⟩ ∧ F b ∧ b < w.heap.size ∧ OpHOk l[i] ∧ w.cell? ⟨b, o + i * 3, none⟩ = some (.bool l[i].col) ∧
    (∃ a' c', w.cell? ⟨b, o + i * 3 + 1, none⟩ = some (.slice a' l[i].sl.length c') ∧ SltV F w (.slice a' l[i].sl.length c') l[i].sl) ∧ ∃ a' c', w.cell? ⟨b, o + i * 3 + 2, none⟩ = some (.slice a' l[i].rt.length c') ∧ IntV F w (.slice a' l[i].rt.length c') l[i].rt := by
  rcases h with ⟨rfl, a', c', e⟩ | ⟨b, o, c', e, hf, hb, h⟩
  · injection e with _ e _
    exact ⟨e, fun i hi => absurd hi (Nat.not_lt_zero _)⟩
  · injection e with e1 e2 _
    refine ⟨e2, fun i hi => ?_⟩
    obtain ⟨h1, h2, u, v, h3, h4, h5, h6⟩ := h i hi
    obtain ⟨a1, c1, rfl, _⟩ := h4.form
    obtain ⟨a2, c2, rfl, _⟩ := h6.form
    exact ⟨b, o, e1, hf, hb, h1, h2, ⟨a1, c1, h3, h4⟩, a2, c2, h5, h6⟩
theorem OpsH.ch {F S : Nat → Prop} {w w' : World} {v : Value} {l : List OpH} (h : OpsH F w v l) (hc : Ch S w w') (hs : ∀ b, F b → b < w.heap.size → ¬ S b) : OpsH F w' v l := by
  rcases h with h | ⟨b, o, c, e, hf, hb, h⟩
  · exact .inl h
  · refine .inr ⟨b, o, c, e, hf, Nat.lt_of_lt_of_le hb hc.size, fun i hi => ?_⟩
    obtain ⟨h1, h2, u, v, h3, h4, h5, h6⟩ := h i hi
    have hb2 := hs b hf hb
    exact ⟨h1, hc.cell h2 hb2, u, v, hc.cell h3 hb2, h4.ch hc hs, hc.cell h5 hb2, h6.ch hc hs⟩
/-- At most 60 calls of at most 40. -/
def FewH (l : List OpH) : Prop := l.length ≤ 60 ∧ ∀ o ∈ l, o.sl.length ≤ 40 ∧ o.rt.length ≤ 40
def fewB (l : List OpH) : Bool := decide (l.length ≤ 60) && l.all fun o => decide (o.sl.length ≤ 40) && decide (o.rt.length ≤ 40)
theorem few_iff {l : List OpH} : fewB l = true ↔ FewH l := by
  unfold fewB FewH
  simp
theorem few_not {l : List OpH} (h : ¬ FewH l) : fewB l = false := by
  cases e : fewB l with
  | false => rfl
  | true => exact absurd (few_iff.1 e) h
set_option maxRecDepth 100000 in
set_option maxHeartbeats 4000000 in
theorem few_c (F : Nat → Prop) (a : Option Addr) (cap : Nat) (l : List OpH) (w : World) (h : OpsH F w (.slice a l.length cap) l) (hl : (l.length : Int) ≤ 9223372036854775807) :
    Calls Try.prog 9 #[.slice a l.length cap] w fun e w' => e = .returned (.bool (fewB l)) ∧ Ch noB w w' := by
  have H := hideP h
  obtain ⟨R, hR⟩ : ∃ R, R = fewB l := ⟨_, rfl⟩
  rw [← hR]
  have HR := hideP hR
  clear h hR
  by_cases hlen : 60 < l.length
  · have hli : (l.length : Int) > 60 := by omega
    go_enter Try.func9, Try.ntmps9
    go_wp2_with fail
    go_ret
    exact ⟨by rw [HR.out, few_not fun h => by have := h.1; omega]; rfl, Ch.refl _ _⟩
  have hli : ¬ (l.length : Int) > 60 := by omega
  go_enter Try.func9, Try.ntmps9
  go_wp2_with fail
  go_loopw [3] (fun i wx => ∃ j : Nat, i = .int .i64 j ∧ j ≤ l.length ∧ Hid (∀ i (_ : i < l.length), i < j → l[i].sl.length ≤ 40 ∧ l[i].rt.length ≤ 40) ∧ Hid (wx = w)) (fun i _ => l.length - (intOf i).toNat)
  case atStart => exact ⟨0, rfl, Nat.zero_le _, (fun _ _ h => absurd h (Nat.not_lt_zero _)), rfl⟩
  case round =>
    obtain ⟨j, rfl, hj, HN, HW⟩ := hrel
    have hw := HW.out
    subst hw
    clear HW
    by_cases hlt : j < l.length
    · have hjl : (j : Int) < (l.length : Int) := by omega
      have hj0 : (0 : Int) ≤ (j : Int) := by omega
      obtain ⟨b, o, rfl, _, _, hok, _, ⟨a1, c1, h1, _⟩, a2, c2, h2, _⟩ := H.out.at.2 j hlt
      have hb1 := hok.2.2.1
      have hb2 := hok.2.2.2
      clear hok
      have HF : Hid (∀ x : OpH, x = l[j] → 40 < x.sl.length ∨ 40 < x.rt.length → ¬ FewH l) := fun x hx hb hf => by
        have := hf.2 x (hx ▸ List.getElem_mem hlt)
        omega
      have HNx : Hid (∀ x : OpH, x = l[j] → x.sl.length ≤ 40 → x.rt.length ≤ 40 → ∀ i (_ : i < l.length), i < j + 1 → l[i].sl.length ≤ 40 ∧ l[i].rt.length ≤ 40) := fun x hx p1 p2 i hi hij => by
        by_cases e : i = j
        · subst e
          exact hx ▸ ⟨p1, p2⟩
        · exact HN.out i hi (by omega)
      obtain ⟨x, hx⟩ : ∃ x, x = l[j] := ⟨_, rfl⟩
      rw [← hx] at h1 h2 hb1 hb2
      have HX := hideP hx
      clear hx
      by_cases hs : 40 < x.sl.length
      · have hsi : (x.sl.length : Int) > 40 := by omega
        go_wp2_with fail
        go_ret
        exact ⟨by rw [HR.out, few_not (HF.out x HX.out (.inl hs))]; rfl, Ch.refl _ _⟩
      · have hsi : ¬ (x.sl.length : Int) > 40 := by omega
        by_cases hr : 40 < x.rt.length
        · have hri : (x.rt.length : Int) > 40 := by omega
          go_wp2_with fail
          go_ret
          exact ⟨by rw [HR.out, few_not (HF.out x HX.out (.inr hr))]; rfl, Ch.refl _ _⟩
        · have hri : ¬ (x.rt.length : Int) > 40 := by omega
          go_wp2_with fail
          exact ⟨⟨j + 1, by go_num, by omega, HNx.out x HX.out (by omega) (by omega), True.intro⟩, by simp [intOf]; omega⟩
    · have hjl : ¬ (j : Int) < (l.length : Int) := by omega
      go_wp2_with fail
      go_ret
      have hf : FewH l := ⟨by omega, fun o ho => by
        obtain ⟨i, hi, rfl⟩ := List.getElem_of_mem ho
        exact HN.out i hi (by omega)⟩
      exact ⟨by rw [HR.out, few_iff.2 hf]; rfl, Ch.refl _ _⟩
end Go.Proofs.Ytcpmdbdppdnkkaa
