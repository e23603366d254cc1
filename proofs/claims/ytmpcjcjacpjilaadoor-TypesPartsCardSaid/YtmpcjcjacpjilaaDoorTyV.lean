/- Types as trees: what the document says of them; without a program in sight. -/
import Derived.Test.YtmpcjcjacpjilaaDoorLexV
namespace Go.Proofs.YtmpcjcjacpjilaaDoor

/-- A type: its kind, its name, its names, the types within it; as a tree of data. -/
abbrev Ty := DataW Unit
def mkT (k : Int) (nm : List UInt8) (ns : List (List UInt8)) (ks : List Ty) : Ty := .agg [.lit (.int .i64 k), .lit (.string nm), .agg (ns.map fun s => .lit (.string s)), .agg ks]

def strD : Ty → List UInt8
  | .lit (.string s) => s
  | _ => []
def kindT : Ty → Int
  | .agg (.lit (.int _ k) :: _) => k
  | _ => 0
def nameT : Ty → List UInt8
  | .agg (_ :: s :: _) => strD s
  | _ => []
def namesT : Ty → List (List UInt8)
  | .agg (_ :: _ :: .agg l :: _) => l.map strD
  | _ => []
def kidsT : Ty → List Ty
  | .agg (_ :: _ :: _ :: .agg l :: _) => l
  | _ => []

section
variable (k : Int) (nm : List UInt8) (ns : List (List UInt8)) (ks : List Ty)
theorem kind_mk : kindT (mkT k nm ns ks) = k := rfl
theorem name_mk : nameT (mkT k nm ns ks) = nm := rfl
theorem names_mk : namesT (mkT k nm ns ks) = ns := by
  show (ns.map fun s => (DataW.lit (.string s) : Ty)).map strD = ns
  rw [List.map_map]
  exact List.map_id _
theorem kids_mk : kidsT (mkT k nm ns ks) = ks := rfl
end

theorem mkT_inj {k k' : Int} {nm nm' : List UInt8} {ns ns' : List (List UInt8)} {ks ks' : List Ty} (h : mkT k nm ns ks = mkT k' nm' ns' ks') : k = k' ∧ nm = nm' ∧ ns = ns' ∧ ks = ks' := by
  have h1 := congrArg kindT h
  have h2 := congrArg nameT h
  have h3 := congrArg namesT h
  have h4 := congrArg kidsT h
  rw [names_mk, names_mk] at h3
  exact ⟨h1, h2, h3, h4⟩

/-- Byte by byte below. -/
def ltB : List UInt8 → List UInt8 → Bool
  | _, [] => false
  | [], _ :: _ => true
  | a :: r, b :: s => if a.toNat < b.toNat then true else if b.toNat < a.toNat then false else ltB r s

/-- A normal type, at most n deep. -/
def NormT : Nat → Ty → Prop
  | 0, _ => False
  | n + 1, D => (∃ k, 0 ≤ k ∧ k ≤ 4 ∧ D = mkT k [] [] []) ∨
    (∃ ns ks, D = mkT 5 [] ns ks ∧ ns.length = ks.length ∧ ns.length ≤ 16 ∧ (∀ s ∈ ns, nameV s = true) ∧ ns.Pairwise (fun a b => ltB a b = true) ∧ ∀ x ∈ ks, NormT n x) ∨
    (∃ a b, D = mkT 6 [] [] [a, b] ∧ NormT n a ∧ NormT n b) ∨
    (∃ ks, D = mkT 7 [] [] ks ∧ 2 ≤ ks.length ∧ (∀ x ∈ ks, NormT n x ∧ 1 ≤ kindT x ∧ kindT x ≤ 6) ∧ ks.Pairwise fun a b => kindT a < kindT b)

theorem norm_mono {n m : Nat} {D : Ty} (h : NormT n D) (hm : n ≤ m) : NormT m D := by
  induction n generalizing m D with
  | zero => exact h.elim
  | succ n ih =>
    obtain ⟨m, rfl⟩ : ∃ p, m = p + 1 := ⟨m - 1, by omega⟩
    rcases h with h | ⟨ns, ks, h1, h2, h3, h4, h5, h6⟩ | ⟨a, b, h1, h2, h3⟩ | ⟨ks, h1, h2, h3, h4⟩
    · exact .inl h
    · exact .inr (.inl ⟨ns, ks, h1, h2, h3, h4, h5, fun x hx => ih (h6 x hx) (by omega)⟩)
    · exact .inr (.inr (.inl ⟨a, b, h1, ih h2 (by omega), ih h3 (by omega)⟩))
    · exact .inr (.inr (.inr ⟨ks, h1, h2, fun x hx => ⟨ih (h3 x hx).1 (by omega), (h3 x hx).2⟩, h4⟩))

/-- With this between each two. -/
def joinV (sep : List UInt8) : List (List UInt8) → List UInt8
  | [] => []
  | [s] => s
  | s :: t :: r => s ++ sep ++ joinV sep (t :: r)

def baseV (k : Int) : List UInt8 := if k = 0 then [97, 110, 121] else if k = 1 then [110, 117, 108, 108] else if k = 2 then [98, 111, 111, 108] else if k = 3 then [105, 110, 116] else [115, 116, 114]

/-- A normal type as text; a function in brackets or not. -/
def showT : Nat → Bool → Ty → List UInt8
  | 0, _, _ => []
  | n + 1, b, D =>
    if kindT D ≤ 4 then baseV (kindT D)
    else if kindT D = 5 then 123 :: (joinV [44, 32] (List.zipWith (fun s x => s ++ 58 :: 32 :: showT n false x) (namesT D) (kidsT D)) ++ [125])
    else if kindT D = 6 then
      match kidsT D with
      | [x, y] => if b then 40 :: (showT n true x ++ [32, 45, 62, 32] ++ showT n false y ++ [41]) else showT n true x ++ [32, 45, 62, 32] ++ showT n false y
      | _ => []
    else joinV [32, 124, 32] ((kidsT D).map (showT n true))

section
variable {n : Nat} {b : Bool}
theorem show_base {k : Int} (h : k ≤ 4) (nm : List UInt8) (ns : List (List UInt8)) (ks : List Ty) : showT (n + 1) b (mkT k nm ns ks) = baseV k := by
  rw [showT, kind_mk, if_pos h]
theorem show_rec (nm : List UInt8) (ns : List (List UInt8)) (ks : List Ty) : showT (n + 1) b (mkT 5 nm ns ks) = 123 :: (joinV [44, 32] (List.zipWith (fun s x => s ++ 58 :: 32 :: showT n false x) ns ks) ++ [125]) := by
  rw [showT, kind_mk, names_mk, kids_mk, if_neg (by decide), if_pos rfl]
theorem show_fun (nm : List UInt8) (ns : List (List UInt8)) (x y : Ty) : showT (n + 1) b (mkT 6 nm ns [x, y]) = if b then 40 :: (showT n true x ++ [32, 45, 62, 32] ++ showT n false y ++ [41]) else showT n true x ++ [32, 45, 62, 32] ++ showT n false y := by
  rw [showT, kind_mk, kids_mk, if_neg (by decide), if_neg (by decide), if_pos rfl]
theorem show_union (nm : List UInt8) (ns : List (List UInt8)) (ks : List Ty) : showT (n + 1) b (mkT 7 nm ns ks) = joinV [32, 124, 32] (ks.map (showT n true)) := by
  rw [showT, kind_mk, kids_mk, if_neg (by decide), if_neg (by decide), if_neg (by decide)]
end

theorem zip_congr {f g : List UInt8 → Ty → List UInt8} : ∀ (ns : List (List UInt8)) (ks : List Ty), (∀ s x, x ∈ ks → f s x = g s x) → List.zipWith f ns ks = List.zipWith g ns ks
  | [], _, _ => by simp
  | _ :: _, [], _ => by simp
  | s :: ns, x :: ks, h => by
    rw [List.zipWith_cons_cons, List.zipWith_cons_cons, h s x (List.mem_cons_self ..), zip_congr ns ks fun s x hx => h s x (List.mem_cons_of_mem _ hx)]

theorem show_more {n m : Nat} {D : Ty} (h : NormT n D) (hm : n ≤ m) (b : Bool) : showT m b D = showT n b D := by
  induction n generalizing m D b with
  | zero => exact h.elim
  | succ n ih =>
    obtain ⟨m, rfl⟩ : ∃ p, m = p + 1 := ⟨m - 1, by omega⟩
    rcases h with ⟨k, h0, h4, rfl⟩ | ⟨ns, ks, rfl, h2, h3, h4, h5, h6⟩ | ⟨x, y, rfl, h2, h3⟩ | ⟨ks, rfl, h2, h3, h4⟩
    · rw [show_base h4, show_base h4]
    · rw [show_rec, show_rec]
      congr 3
      exact zip_congr ns ks fun s x hx => by rw [ih (h6 x hx) (by omega)]
    · rw [show_fun, show_fun, ih h2 (by omega), ih h3 (by omega)]
    · rw [show_union, show_union]
      congr 1
      exact List.map_congr_left fun x hx => ih (h3 x hx).1 (by omega) true
end Go.Proofs.YtmpcjcjacpjilaaDoor
