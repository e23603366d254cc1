/- types.show by a contract: all together; types.Show of normal types. -/
import Derived.Test.YtmpcjcjacpjilaaDoorTySwF
import Derived.Test.YtmpcjcjacpjilaaDoorTySwR
import Derived.Test.YtmpcjcjacpjilaaDoorTySwU
namespace Go.Proofs.YtmpcjcjacpjilaaDoor
open Go.RowKit

theorem show_c : ∀ n, ShowAt n
  | 0 => fun _ _ _ h => h.elim
  | n + 1 => fun v D w h hn hp hl => by
    obtain ⟨k, nm, na, nc, ka, kc, ns, ks, rfl, rfl, h3, h4, h5, ⟨_, h6⟩, ⟨_, h7⟩, h8, h9⟩ := h
    rcases hn with ⟨k', h0, h4', e⟩ | ⟨ns', ks', e, hl2, h16, hnv, _, hx⟩ | ⟨x, y, e, hx, hy⟩ | ⟨ks', e, h2, hx, hpw⟩
    · obtain ⟨rfl, hnm, rfl, rfl⟩ := mkT_inj e
      rw [hnm]
      exact show_base_c n _ ⟨h0, h4'⟩ _ _ _ _ _ _ _ _ hp
    · obtain ⟨rfl, hnm, rfl, rfl⟩ := mkT_inj e
      rw [hnm] at hl ⊢
      exact show_rec_c n (show_c n) _ _ _ _ _ _ _ _ hl2 (by omega) h8 h9 hx hp hl
    · obtain ⟨rfl, hnm, rfl, rfl⟩ := mkT_inj e
      rw [hnm] at hl ⊢
      rw [show_fun] at hl
      exact show_fun_c n (show_c n) _ _ _ _ _ _ _ _ _ h9 hx hy hp (by simpa using hl)
    · obtain ⟨rfl, hnm, rfl, rfl⟩ := mkT_inj e
      rw [hnm] at hl ⊢
      have hlen : ks.length ≤ 1000 := by
        have : (ks.map kindT).length ≤ 6 := by
          have hp2 : (ks.map kindT).Pairwise (· < ·) := by rw [List.pairwise_map]; exact hpw
          have hnd : (ks.map kindT).Nodup := hp2.imp fun h e => by omega
          have hsub : (ks.map kindT) ⊆ [1, 2, 3, 4, 5, 6] := fun z hz => by
            obtain ⟨x, hx1, rfl⟩ := List.mem_map.1 hz
            have := (hx x hx1).2
            have : kindT x = 1 ∨ kindT x = 2 ∨ kindT x = 3 ∨ kindT x = 4 ∨ kindT x = 5 ∨ kindT x = 6 := by omega
            simp
            exact this
          exact (List.Nodup.length_le_of_subset hnd hsub)
        simp at this
        omega
      exact show_uni_c n (show_c n) _ _ _ _ _ _ _ _ hlen h9 (fun x h => (hx x h).1) hp hl
end Go.Proofs.YtmpcjcjacpjilaaDoor
