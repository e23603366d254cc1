/- Types in memory that was made from some block on, in rows that bear no mark. -/
import Derived.Test.YtmpcjcjacpjilaaDoorTySz
import Derived.Laws.OwnMore
namespace Go.Proofs.YtmpcjcjacpjilaaDoor
open Go.RowKit

def NamesF (w : World) (lo : Nat) (a : Option Addr) (ns : List (List UInt8)) : Prop :=
  ns = [] ∨ ∃ b o, a = some ⟨b, o, none⟩ ∧ lo ≤ b ∧ b < w.heap.size ∧ ∀ i (h : i < ns.length), w.cell? ⟨b, o + i, none⟩ = some (.string ⟨ns[i].toArray⟩)

def RowF (w : World) (lo : Nat) (T : Value → Ty → Prop) (ka : Option Addr) (ks : List Ty) : Prop :=
  ks = [] ∨ ∃ b o, ka = some ⟨b, o, none⟩ ∧ lo ≤ b ∧ CleanB w b ∧ ∀ i (h : i < ks.length), ∃ c0 c1 c2 c3, w.cell? ⟨b, o + i * 4, none⟩ = some c0 ∧ w.cell? ⟨b, o + i * 4 + 1, none⟩ = some c1 ∧
      w.cell? ⟨b, o + i * 4 + 2, none⟩ = some c2 ∧ w.cell? ⟨b, o + i * 4 + 3, none⟩ = some c3 ∧ T (.agg #[c0, c1, c2, c3]) ks[i]

/-- The value v is a type, at most n deep, whose tree is D, in memory from block lo on. -/
def TyF (w : World) (lo : Nat) : Nat → Value → Ty → Prop
  | 0, _, _ => False
  | n + 1, v, D => ∃ (k : Int) (nm : ByteArray) (na : Option Addr) (nc : Nat) (ka : Option Addr) (kc : Nat) (ns : List (List UInt8)) (ks : List Ty),
    v = .agg #[.int .i64 k, .string nm, .slice na ns.length nc, .slice ka ks.length kc] ∧ D = mkT k nm.data.toList ns ks ∧ (Lit.int .i64 k).wf = true ∧ nm.size ≤ reachBytes ∧ (∀ s ∈ ns, s.length ≤ reachBytes) ∧
    (ns.length ≤ nc ∧ ns.length ≤ reachBytes) ∧ (ks.length ≤ kc ∧ ks.length ≤ reachBytes) ∧ NamesF w lo na ns ∧ RowF w lo (fun v D => TyF w lo n v D) ka ks

abbrev KidsF (w : World) (lo n : Nat) (ka : Option Addr) (ks : List Ty) : Prop := RowF w lo (fun v D => TyF w lo n v D) ka ks

theorem clean_frozen {w : World} {b o : Nat} (h : CleanB w b) : w.frozen? ⟨b, o, none⟩ = false := by
  obtain ⟨cs, t, h⟩ := h
  simp [World.frozen?, h]

theorem clean_lt {w : World} {b : Nat} (h : CleanB w b) : b < w.heap.size := by
  obtain ⟨cs, t, h⟩ := h
  exact lt_of_block h

section
variable {w w' : World} {lo lo' n m : Nat} {v : Value} {D : Ty} {a ka : Option Addr} {ns : List (List UInt8)} {ks : List Ty}

theorem NamesF.at (h : NamesF w lo a ns) : NamesAt w a ns := by
  rcases h with h | ⟨b, o, e, _, hlt, hc⟩
  · exact .inl h
  · exact .inr ⟨b, o, e, hlt, hc⟩

theorem tyF_at (h : TyF w lo n v D) : TyAt w true n v D := by
  induction n generalizing v D with
  | zero => exact h.elim
  | succ n ih =>
    obtain ⟨k, nm, na, nc, ka, kc, ns, ks, h1, h2, h3, h4, h5, h6, h7, h8, h9⟩ := h
    refine ⟨k, nm, na, nc, ka, kc, ns, ks, h1, h2, h3, h4, h5, h6, h7, h8.at, ?_⟩
    rcases h9 with h9 | ⟨b, o, e, _, hcl, hc⟩
    · exact .inl h9
    · refine .inr ⟨b, o, e, clean_lt hcl, clean_frozen hcl, fun _ => hcl, fun i hi => ?_⟩
      obtain ⟨c0, c1, c2, c3, e0, e1, e2, e3, ht⟩ := hc i hi
      exact ⟨c0, c1, c2, c3, e0, e1, e2, e3, ih ht⟩

/-- It stays while blocks from lo on stay. -/
theorem tyF_keep (h : TyF w lo n v D) (hsz : w.heap.size ≤ w'.heap.size) (hk : ∀ b, lo ≤ b → b < w.heap.size → w'.heap[b]? = w.heap[b]?) : TyF w' lo n v D := by
  induction n generalizing v D with
  | zero => exact h.elim
  | succ n ih =>
    obtain ⟨k, nm, na, nc, ka, kc, ns, ks, h1, h2, h3, h4, h5, h6, h7, h8, h9⟩ := h
    refine ⟨k, nm, na, nc, ka, kc, ns, ks, h1, h2, h3, h4, h5, h6, h7, ?_, ?_⟩
    · rcases h8 with h8 | ⟨b, o, e, hl, hlt, hc⟩
      · exact .inl h8
      · exact .inr ⟨b, o, e, hl, Nat.lt_of_lt_of_le hlt hsz, fun i hi => (World.cell?_of_block (w := w) (a := ⟨b, o + i, none⟩) (hk b hl hlt)).trans (hc i hi)⟩
    · rcases h9 with h9 | ⟨b, o, e, hl, hcl, hc⟩
      · exact .inl h9
      · have hlt := clean_lt hcl
        have hcl' : CleanB w' b := by
          obtain ⟨cs, t, hh⟩ := hcl
          exact ⟨cs, t, (hk b hl hlt).trans hh⟩
        refine .inr ⟨b, o, e, hl, hcl', fun i hi => ?_⟩
        obtain ⟨c0, c1, c2, c3, e0, e1, e2, e3, ht⟩ := hc i hi
        have hcell : ∀ j, w'.cell? ⟨b, j, none⟩ = w.cell? ⟨b, j, none⟩ := fun j => World.cell?_of_block (w := w) (a := ⟨b, j, none⟩) (hk b hl hlt)
        exact ⟨c0, c1, c2, c3, (hcell _).trans e0, (hcell _).trans e1, (hcell _).trans e2, (hcell _).trans e3, ih ht⟩

theorem tyF_below (h : TyF w lo n v D) (hb : Below w.heap.size w w') : TyF w' lo n v D := tyF_keep h hb.size fun b _ hlt => hb.block b hlt

theorem tyF_lower (h : TyF w lo n v D) (hl : lo' ≤ lo) : TyF w lo' n v D := by
  induction n generalizing v D with
  | zero => exact h.elim
  | succ n ih =>
    obtain ⟨k, nm, na, nc, ka, kc, ns, ks, h1, h2, h3, h4, h5, h6, h7, h8, h9⟩ := h
    refine ⟨k, nm, na, nc, ka, kc, ns, ks, h1, h2, h3, h4, h5, h6, h7, ?_, ?_⟩
    · rcases h8 with h8 | ⟨b, o, e, hb, hlt, hc⟩
      · exact .inl h8
      · exact .inr ⟨b, o, e, by omega, hlt, hc⟩
    · rcases h9 with h9 | ⟨b, o, e, hb, hcl, hc⟩
      · exact .inl h9
      · refine .inr ⟨b, o, e, by omega, hcl, fun i hi => ?_⟩
        obtain ⟨c0, c1, c2, c3, e0, e1, e2, e3, ht⟩ := hc i hi
        exact ⟨c0, c1, c2, c3, e0, e1, e2, e3, ih ht⟩

theorem tyF_mono (h : TyF w lo n v D) (hm : n ≤ m) : TyF w lo m v D := by
  induction n generalizing m v D with
  | zero => exact h.elim
  | succ n ih =>
    obtain ⟨m, rfl⟩ : ∃ p, m = p + 1 := ⟨m - 1, by omega⟩
    obtain ⟨k, nm, na, nc, ka, kc, ns, ks, h1, h2, h3, h4, h5, h6, h7, h8, h9⟩ := h
    refine ⟨k, nm, na, nc, ka, kc, ns, ks, h1, h2, h3, h4, h5, h6, h7, h8, ?_⟩
    rcases h9 with h9 | ⟨b, o, e, hb, hcl, hc⟩
    · exact .inl h9
    · refine .inr ⟨b, o, e, hb, hcl, fun i hi => ?_⟩
      obtain ⟨c0, c1, c2, c3, e0, e1, e2, e3, ht⟩ := hc i hi
      exact ⟨c0, c1, c2, c3, e0, e1, e2, e3, ih ht (by omega)⟩

/-- A fresh type is a value of four cells. -/
theorem tyF_form (h : TyF w lo n v D) : ∃ (k : Int) (nm : ByteArray) (na : Option Addr) (nl nc : Nat) (ka : Option Addr) (kl kc : Nat), v = .agg #[.int .i64 k, .string nm, .slice na nl nc, .slice ka kl kc] ∧ kindT D = k := by
  cases n with
  | zero => exact h.elim
  | succ n =>
    obtain ⟨k, nm, na, nc, ka, kc, ns, ks, h1, h2, _⟩ := h
    exact ⟨k, nm, na, _, nc, ka, _, kc, h1, by rw [h2]; rfl⟩

theorem kidF_at (h : KidsF w lo n ka ks) {i : Nat} (hi : i < ks.length) :
    ∃ b o k nm na nl nc la ll lc, ka = some ⟨b, o, none⟩ ∧ b < w.heap.size ∧ w.cell? ⟨b, o + i * 4, none⟩ = some (.int .i64 k) ∧ w.cell? ⟨b, o + i * 4 + 1, none⟩ = some (.string nm) ∧ w.cell? ⟨b, o + i * 4 + 2, none⟩ = some (.slice na nl nc) ∧
      w.cell? ⟨b, o + i * 4 + 3, none⟩ = some (.slice la ll lc) ∧ TyF w lo n (.agg #[.int .i64 k, .string nm, .slice na nl nc, .slice la ll lc]) ks[i] := by
  rcases h with rfl | ⟨b, o, rfl, _, hcl, hc⟩
  · cases hi
  · obtain ⟨c0, c1, c2, c3, q0, q1, q2, q3, ht⟩ := hc i hi
    obtain ⟨k, nm, na, nl, nc, ka, kl, kc, e, _⟩ := tyF_form ht
    injection e with e
    injection e with e
    injection e with e0 e
    injection e with e1 e
    injection e with e2 e
    injection e with e3 _
    subst e0 e1 e2 e3
    exact ⟨b, o, k, nm, na, nl, nc, ka, kl, kc, rfl, clean_lt hcl, q0, q1, q2, q3, ht⟩
end

/-- The cells of a type. -/
abbrev Cells := Int × ByteArray × Option Addr × Nat × Nat × Option Addr × Nat × Nat
def Cells.list (c : Cells) : List Value := [.int .i64 c.1, .string c.2.1, .slice c.2.2.1 c.2.2.2.1 c.2.2.2.2.1, .slice c.2.2.2.2.2.1 c.2.2.2.2.2.2.1 c.2.2.2.2.2.2.2]
def Cells.val (c : Cells) : Value := .agg c.list.toArray

theorem tyF_cells {w : World} {lo n : Nat} {v : Value} {D : Ty} (h : TyF w lo n v D) : ∃ c : Cells, v = c.val ∧ kindT D = c.1 := by
  obtain ⟨k, nm, na, nl, nc, ka, kl, kc, e, e2⟩ := tyF_form h
  exact ⟨(k, nm, na, nl, nc, ka, kl, kc), e, e2⟩

theorem cells_flat : ∀ (cs : List Cells) (i : Nat) (hi : i < cs.length) (j : Nat), j < 4 → (cs.flatMap Cells.list)[i * 4 + j]? = cs[i].list[j]?
  | [], _, hi, _, _ => by cases hi
  | c :: cs, 0, _, j, hj => by
    rw [List.flatMap_cons, List.getElem?_append_left (by simp [Cells.list]; omega)]
    simp
  | c :: cs, i + 1, hi, j, hj => by
    rw [List.flatMap_cons, List.getElem?_append_right (by simp [Cells.list]; omega)]
    have := cells_flat cs i (by simpa using hi) j hj
    simp only [List.getElem_cons_succ]
    rw [← this]
    congr 1
    simp [Cells.list]
    omega

/-- Rows that the call owns, as rows of fresh types. -/
theorem kidsF_of_owns {w : World} {base lo t n : Nat} {v : Value} {cs : List Cells} {ks : List Ty} (h : w.ownsRow base t 4 v cs.length (cs.flatMap Cells.list)) (hl : lo ≤ base) (hlen : ks.length = cs.length)
    (hk : ∀ i (h1 : i < cs.length) (h2 : i < ks.length), TyF w lo n cs[i].val ks[i]) : ∃ a cap, v = .slice a ks.length cap ∧ ks.length ≤ cap ∧ KidsF w lo n a ks := by
  rcases h.2 with ⟨rfl, h0⟩ | ⟨g, cap, cur, rfl, hg, hh, hcap, _, _, hcur⟩
  · have : ks = [] := List.length_eq_zero_iff.1 (by omega)
    exact ⟨none, 0, by rw [this]; rfl, by rw [this]; exact Nat.le_refl _, .inl this⟩
  · refine ⟨some ⟨g, 0, none⟩, cap, by rw [hlen], by omega, .inr ⟨g, 0, rfl, by omega, ⟨_, _, hh⟩, fun i hi => ?_⟩⟩
    have hi' : i < cs.length := by omega
    have hcell : ∀ j, j < 4 → w.cell? ⟨g, 0 + i * 4 + j, none⟩ = cs[i].list[j]? := by
      intro j hj
      have h1 := h.cellAt (i * 4 + j) (by omega)
      rw [show 0 + i * 4 + j = i * 4 + j by omega, h1]
      exact cells_flat cs i hi' j hj
    exact ⟨_, _, _, _, hcell 0 (by omega), hcell 1 (by omega), hcell 2 (by omega), hcell 3 (by omega), hk i hi' hi⟩
end Go.Proofs.YtmpcjcjacpjilaaDoor
