/-
  The reference's Regions, piece by piece: the next edit; what a cluster has; its edits are marked.
-/
import Derived.BigQuiet
import Derived.Test.YtghnieddokhagaaDoorJ1
import Derived.Test.YtghnieddokhagaaDoorQJH
import Derived.Test.YtghnieddokhagaaDoorQReg
namespace Go.Proofs.YtghnieddokhagaaDoor.Al
open Go Go.RowKit Kt Kg Lw Li Df Kf

def lay (n : Nat) (φ : Nat → Ed) : List Ed := (List.range n).map φ
theorem lay_len (n : Nat) (φ : Nat → Ed) : (lay n φ).length = n := by simp [lay]
theorem lay_at {n : Nat} {φ : Nat → Ed} {i : Nat} (h : i < n) : (lay n φ).getD i ⟨0, 0, []⟩ = φ i := by
  unfold lay
  rw [List.getD_eq_getElem?_getD, List.getElem?_map, List.getElem?_range h]; rfl
theorem lay_congr {n : Nat} {φ ψ : Nat → Ed} (h : ∀ i, i < n → φ i = ψ i) : lay n φ = lay n ψ := by
  unfold lay
  exact List.map_congr_left fun i hi => h i (List.mem_range.1 hi)
theorem lay_set {n : Nat} {φ : Nat → Ed} {i : Nat} (e : Ed) : (lay n φ).set i e = lay n fun j => if j = i then e else φ j := by
  apply List.ext_getElem?
  intro j
  unfold lay
  rw [List.getElem?_set]
  by_cases hj : j < n
  · by_cases h : i = j
    · subst h; simp [hj]
    · rw [if_neg h, List.getElem?_map, List.getElem?_map, List.getElem?_range hj]
      simp [show ¬ j = i from fun e => h e.symm]
  · have hr : (List.range n)[j]? = none := List.getElem?_eq_none (by simp; omega)
    rw [List.getElem?_map, List.getElem?_map, hr]
    by_cases h : i = j
    · subst h; simp [hj]
    · rw [if_neg h]; rfl
/-- an edit's cells, in a world behind -/
theorem lay_nth {w w' : World} {A : Option Addr} {c n : Nat} {φ : Nat → Ed} (h : Es w A c (lay n φ)) (hb : Below w.heap.size w w') {k : Nat} (hk : k < n) :
    ∃ b o A' c', A = some ⟨b, o, none⟩ ∧ w'.cell? ⟨b, o + k * 3, none⟩ = some (.int .i64 (φ k).pos) ∧ w'.cell? ⟨b, o + k * 3 + 1, none⟩ = some (.int .i64 (φ k).del) ∧ w'.cell? ⟨b, o + k * 3 + 2, none⟩ = some (.slice A' (φ k).ins.length c') := by
  have := es_nth h hb (k := k) (by rw [lay_len]; exact hk)
  rwa [lay_at hk] at this

theorem drewN_row {w wv : World} {n q : Nat} {t : TypeId} {cs : List Value} (h : w.drewN n = wv) (hr : Row w q t cs) : Row wv q t cs := by subst h; exact hr.drewN n
theorem drewN_oth {S : Nat → Prop} {A w wv : World} {n : Nat} (h : w.drewN n = wv) (hr : Oth S A w) : Oth S A wv := by subst h; exact hr.drewN n
theorem accE_bd {φ : Nat → Ed} {C : Nat → Bool} (p u : Int) (hp : p ≤ u) : ∀ n, (∀ i, i < n → (φ i).pos + (φ i).del ≤ u) → accE φ C p n ≤ u
  | n, h => accE_le p u hp n fun i hi _ => h i hi
theorem accA_bd {φ : Nat → Ed} {C : Nat → Bool} {m : Nat} : ∀ n, (∀ i, i < n → 0 ≤ (φ i).del ∧ (φ i).del ≤ 1000000 ∧ (φ i).ins.length ≤ 1000000) → -(n * 1000000 : Int) ≤ accA φ C m n ∧ accA φ C m n ≤ n * 1000000
  | 0, _ => by simp [accA]
  | n + 1, h => by
    have h1 := accA_bd (C := C) (m := m) n fun i hi => h i (by omega)
    have h2 := h n (by omega)
    rw [accA]
    split <;> omega
theorem accB_bd {φ : Nat → Ed} {C : Nat → Bool} {m : Nat} : ∀ n, (∀ i, i < n → 0 ≤ (φ i).del ∧ (φ i).del ≤ 1000000 ∧ (φ i).ins.length ≤ 1000000) → -(n * 1000000 : Int) ≤ accB φ C m n ∧ accB φ C m n ≤ n * 1000000
  | 0, _ => by simp [accB]
  | n + 1, h => by
    have h1 := accB_bd (C := C) (m := m) n fun i hi => h i (by omega)
    have h2 := h n (by omega)
    rw [accB]
    split <;> omega
end Go.Proofs.YtghnieddokhagaaDoor.Al
