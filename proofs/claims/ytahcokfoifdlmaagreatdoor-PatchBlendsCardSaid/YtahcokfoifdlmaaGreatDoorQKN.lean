/-
  Rows of whole numbers that the call itself owns: append of one.
-/
import Derived.Test.YtahcokfoifdlmaaGreatDoorQWS
import Derived.BigQuiet
import Derived.Test.YtahcokfoifdlmaaGreatDoorQJA
import Derived.Test.YtahcokfoifdlmaaGreatDoorQKR
import Derived.Test.YtahcokfoifdlmaaGreatDoorQRfB
import Derived.Test.YtahcokfoifdlmaaGreatDoorQEB
import Derived.Test.YtahcokfoifdlmaaGreatDoorQRS
import Derived.Test.YtahcokfoifdlmaaGreatDoorQJH
namespace Go.Proofs.YtahcokfoifdlmaaGreatDoor.Kt
open Go Go.RowKit Lw

/-- a list of whole numbers in a row of the call's own (E: the number of the type int) -/
def OwN (w : World) (B : Nat) (E : TypeId) (v : Value) (l : List Int) : Prop := w.ownsRow B E 1 v l.length (nums .i64 l)
section
variable {w w' : World} {B : Nat} {E : TypeId} {v : Value} {l : List Int}
theorem OwN.nil (w : World) (B : Nat) (E : TypeId) : OwN w B E (.slice none 0 0) [] := World.ownsRow_nil w B E 1
theorem OwN.alloc (h : OwN w B E v l) (o : Obj) : OwN (w.alloc o) B E v l := World.ownsRow.alloc h o
theorem OwN.drew (h : OwN w B E v l) : OwN w.drew B E v l := h
theorem OwN.drewN (h : OwN w B E v l) (n : Nat) : OwN (w.drewN n) B E v l := h
theorem OwN.below (h : OwN w B E v l) {B' : Nat} (hb : Below B' w w') (hv : ∀ g, v.ownBlock = some g → g < B') : OwN w' B E v l := by
  refine ⟨h.1, ?_⟩
  rcases h.2 with ⟨h1, h2⟩ | ⟨g, cap, cur, hv', h1, h2, h3⟩
  · exact .inl ⟨h1, h2⟩
  · exact .inr ⟨g, cap, cur, hv', h1, (hb.block g (hv g (by rw [hv']; rfl))).trans h2, h3⟩
theorem OwN.kept (h : OwN w B E v l) (hb : Below w.heap.size w w') : OwN w' B E v l := h.below hb fun g hg => (World.ownsRow.lt h g hg).2
/-- the row's own block, its cells -/
theorem OwN.form (h : OwN w B E v l) (hn : 0 < l.length) : ∃ g cap, v = .slice (some ⟨g, 0, none⟩) l.length cap ∧ B ≤ g ∧ g < w.heap.size ∧ ∀ j x, l[j]? = some x → w.cell? ⟨g, j, none⟩ = some (.int .i64 x) := by
  obtain ⟨g, cap, rfl, hB, hg⟩ := World.ownsRow.form h hn
  refine ⟨g, cap, rfl, hB, hg, fun j x hj => ?_⟩
  have hlt : j < l.length := (List.getElem?_eq_some_iff.1 hj).1
  have := World.ownsRow.cellAt (cap := cap) h j (by omega)
  rw [this]
  simp [nums, hj]
end
end Go.Proofs.YtahcokfoifdlmaaGreatDoor.Kt
namespace Go.Proofs.YtahcokfoifdlmaaGreatDoor.Al
open Go Go.RowKit Kt Lw Li Df

abbrev tI : TypeId := 3
theorem own_put {w : World} {B : Nat} {E : TypeId} {g n c : Nat} {l : List Int} (h : OwN w B E (.slice (some ⟨g, 0, none⟩) n c) l) (i : Nat) (z : Int) (hn : n = l.length) :
    OwN (w.setCell ⟨g, i, none⟩ (.int .i64 z)) B E (.slice (some ⟨g, 0, none⟩) n c) (l.set i z) ∧ w.grownBy (w.setCell ⟨g, i, none⟩ (.int .i64 z)) (some g) := by
  subst hn
  have := World.ownsRow.stored (cap := c) h i (.int .i64 z)
  refine ⟨?_, this.2⟩
  unfold OwN
  rw [List.length_set]
  have e : nums .i64 (l.set i z) = (nums .i64 l).set i (.int .i64 z) := by unfold nums; rw [List.map_set]
  rw [e]
  exact this.1
end Go.Proofs.YtahcokfoifdlmaaGreatDoor.Al
namespace Go.Proofs.YtahcokfoifdlmaaGreatDoor.Al
open Go.Proofs.YtahcokfoifdlmaaGreatDoor.Df

noncomputable def inC (T : List (Bool × Ed)) (p : Bool × Ed) : Bool := @decide (p ∈ T) (Classical.propDecidable _)
theorem inC_iff {T : List (Bool × Ed)} {p : Bool × Ed} : inC T p = true ↔ p ∈ T := by unfold inC; exact @decide_eq_true_iff _ (Classical.propDecidable _)
theorem filter_mid {α : Type} (f : α → Bool) (A B C : List α) (hA : ∀ x ∈ A, f x = false) (hB : ∀ x ∈ B, f x = true) (hC : ∀ x ∈ C, f x = false) : (A ++ B ++ C).filter f = B := by
  have h1 : A.filter f = [] := List.filter_eq_nil_iff.2 fun x hx => by simp [hA x hx]
  have h2 : C.filter f = [] := List.filter_eq_nil_iff.2 fun x hx => by simp [hC x hx]
  have h3 : B.filter f = B := List.filter_eq_self.2 hB
  rw [List.filter_append, List.filter_append, h1, h2, h3]
  simp
section
variable (φ : Nat → Ed) (C : Nat → Bool) (m : Nat)
end
section
variable {φ : Nat → Ed} {C : Nat → Bool} {m : Nat}
end
section
variable {o a b : Ls} {V : List (Bool × Ed)} {s : St} {d : Bool} {e : Ed} {r : List (Bool × Ed)} {φ : Nat → Ed} {C : Nat → Bool}
theorem RInv.filter (h : RInv o a b V s ((d, e) :: r)) (q : Bool) (F : List Ed) (hF : F = if q then D o b else D o a) : F.filter (fun x => inC (clu d e r) (q, x)) = ofS q (clu d e r) := by
  have hall : F = ofS q V ++ ofS q (clu d e r) ++ ofS q (clr d e r) := by
    rw [List.append_assoc, ← ofS_append, clu_all, ← ofS_append, ← h.all, hF]
    have := ofS_mrg _ (D o a) (D o b) (Nat.le_refl _)
    cases q
    · exact this.1.symm
    · exact this.2.symm
  rw [hall]
  refine filter_mid _ _ _ _ (fun x hx => ?_) (fun x hx => inC_iff.2 (mem_ofS.1 hx)) (fun x hx => ?_)
  · cases hh : inC (clu d e r) (q, x)
    · rfl
    · exact absurd (inC_iff.1 hh) (h.apart (.inl (mem_ofS.1 hx)))
  · cases hh : inC (clu d e r) (q, x)
    · rfl
    · exact absurd (inC_iff.1 hh) (h.apart (.inr (mem_ofS.1 hx)))
end
/-- which edit is the first one of those that begin at a place, or behind it -/
def Fst (φ : Nat → Ed) (X N1 : Int) (k : Nat) (first from_ : Int) : Prop :=
  (first = -1 ∧ from_ = N1 ∧ ∀ j, j < k → ¬ (X ≤ (φ j).pos ∧ (φ j).pos < N1)) ∨
  (∃ f : Nat, f < k ∧ first = f ∧ from_ = (φ f).pos ∧ X ≤ (φ f).pos ∧ (φ f).pos < N1 ∧ ∀ j, j < k → X ≤ (φ j).pos → (φ f).pos ≤ (φ j).pos)
theorem Fst.zero (φ : Nat → Ed) (X N1 : Int) : Fst φ X N1 0 (-1) N1 := .inl ⟨rfl, rfl, fun _ h => absurd h (Nat.not_lt_zero _)⟩
theorem Fst.no {φ : Nat → Ed} {X N1 first from_ : Int} {k : Nat} (h : Fst φ X N1 k first from_) (hn : ¬ (X ≤ (φ k).pos ∧ (φ k).pos < from_)) : Fst φ X N1 (k + 1) first from_ := by
  rcases h with ⟨h1, h2, h3⟩ | ⟨f, h1, h2, h3, h4, h5, h6⟩
  · refine .inl ⟨h1, h2, fun j hj => ?_⟩
    rcases Nat.lt_or_ge j k with h | h
    · exact h3 j h
    · obtain rfl : j = k := by omega
      rw [← h2]; exact hn
  · refine .inr ⟨f, by omega, h2, h3, h4, h5, fun j hj hx => ?_⟩
    rcases Nat.lt_or_ge j k with h | h
    · exact h6 j h hx
    · obtain rfl : j = k := by omega
      rw [h3] at hn
      omega
end Go.Proofs.YtahcokfoifdlmaaGreatDoor.Al
