/- Records: fields that were sorted, and the record that the chapter says; without a program in sight. -/
import Derived.Test.YtmpcjcjacpjilaaDoorTyMore
namespace Go.Proofs.YtmpcjcjacpjilaaDoor

theorem sorted_strict {ps : List (List UInt8 × Ty)} (hs : ∀ i j (_ : i < j) (hj : j < ps.length), ltB ps[j].1 (ps[i]'(by omega)).1 = false) (hd : ∀ i (h : i + 1 < ps.length), (ps[i]'(by omega)).1 ≠ ps[i + 1].1) : RiseP ps := by
  unfold RiseP
  rw [List.pairwise_iff_getElem]
  intro i j hi hj hij
  cases h : ltB ps[i].1 ps[j].1
  · exfalso
    have e := ltB_total _ _ h (hs i j hij hj)
    by_cases h1 : j = i + 1
    · subst h1
      exact hd i hj e
    · have a := hs i (i + 1) (by omega) (by omega)
      have b := hs (i + 1) j (by omega) hj
      rw [← e] at b
      exact hd i (by omega) (ltB_total _ _ b a)
  · rfl

theorem rise_fst {l : List (List UInt8 × Ty)} (h : RiseP l) : (l.map (·.1)).Nodup := rise_nodup h

/-- Fields whose names rise are the record. -/
theorem record_sorted {ns : List (List UInt8)} {es : List Ty} {ps : List (List UInt8 × Ty)} (hl : ns.length = es.length) (h16 : ns.length ≤ 16) (hn : ∀ s ∈ ns, nameV s = true) (hp : ps.Perm (ns.zip es)) (hr : RiseP ps) : recordV ns es = some (recT ps) := by
  have hnd : ns.Nodup := by
    have h1 := (hp.map (·.1))
    have h2 : (ns.zip es).map (·.1) = ns := by
      rw [List.map_fst_zip]
      omega
    rw [h2] at h1
    exact h1.nodup_iff.1 (rise_fst hr)
  unfold recordV
  rw [if_neg (by omega)]
  cases hg : recGo ns es [] with
  | none =>
    rcases recGo_none hl hg with ⟨s, hs, h0⟩ | h0
    · rw [hn s hs] at h0
      cases h0
    · exact absurd (by simpa using hnd) h0
  | some l =>
    obtain ⟨hrl, hm, _, _⟩ := recGo_some hl List.Pairwise.nil hg
    have : l = ps := rising_ext (R := fun a b : List UInt8 × Ty => ltB a.1 b.1 = true) (fun a h => by rw [ltB_irr] at h; cases h) (fun a b h k => ltB_asym h k) l ps hrl hr fun x => by
      rw [hm x, hp.mem_iff]
      simp
    rw [this]
    rfl

/-- A name that stands twice: no record. -/
theorem record_twice {ns : List (List UInt8)} {es : List Ty} {ps : List (List UInt8 × Ty)} (hl : ns.length = es.length) (hp : ps.Perm (ns.zip es)) {i : Nat} (hi : i + 1 < ps.length) (he : (ps[i]'(by omega)).1 = ps[i + 1].1) : recordV ns es = none := by
  unfold recordV
  split
  · rfl
  · cases hg : recGo ns es [] with
    | none => rfl
    | some l =>
      exfalso
      obtain ⟨hrl, hm, _, _⟩ := recGo_some hl List.Pairwise.nil hg
      have h1 := recGo_permP hl hg
      have h2 : ps.Perm l := hp.trans (by simpa using h1.symm)
      have h3 := (h2.map (·.1)).nodup_iff.2 (rise_fst hrl)
      have h4 := List.pairwise_iff_getElem.1 h3 i (i + 1) (by simp; omega) (by simp; omega) (by omega)
      simp only [List.getElem_map] at h4
      exact h4 he

theorem record_name {ns : List (List UInt8)} {es : List Ty} {s : List UInt8} (hs : s ∈ ns) (h0 : nameV s = false) : recordV ns es = none := by
  unfold recordV
  split
  · rfl
  · rename_i hc
    cases hg : recGo ns es [] with
    | none => rfl
    | some l =>
      obtain ⟨_, _, hn, _⟩ := recGo_some (by omega) List.Pairwise.nil hg
      rw [hn s hs] at h0
      cases h0
end Go.Proofs.YtmpcjcjacpjilaaDoor
