/-
  diff.Turn.
-/
import Derived.Test.YtabgkfkjnpcbkaaDoorQEB
namespace Go.Proofs.YtabgkfkjnpcbkaaDoor.Df
open Go Go.RowKit Kt Lw

theorem vs_drew {w : World} {P : Nat → Prop} {A : Option Addr} {c : Nat} {vs : List Value} (h : Vs w P A c vs) : Vs w.drew P A c vs := h
theorem turn_len (a : Ls) : ∀ (L : List Ed) (more : Int), (turn a more L).length = L.length
  | [], _ => rfl
  | e :: L, more => by rw [turn, List.length_cons, turn_len a L, List.length_cons]
end Go.Proofs.YtabgkfkjnpcbkaaDoor.Df
namespace Go.Proofs.YtabgkfkjnpcbkaaDoor.Df
open Go Go.RowKit Kt Lw Li

/-- the cell of text i, here -/
theorem vs_at {w : World} {P : Nat → Prop} {A : Option Addr} {c : Nat} {l : Ls} (h : Vs w P A c (texts l)) {k : Nat} (hk : k < l.length) :
    ∃ b o, A = some ⟨b, o, none⟩ ∧ w.cell? ⟨b, o + k, none⟩ = some (.string ⟨(l.getD k []).toArray⟩) := by
  obtain ⟨b, o, rfl, hp, hc⟩ := h.2 (by rw [texts_len]; omega)
  exact ⟨b, o, rfl, hc k _ (texts_at l k hk)⟩
theorem beq_txt (x y : List UInt8) : (x == y) = decide (x = y) := by rw [Bool.eq_iff_iff, beq_iff_eq, decide_eq_true_iff]
end Go.Proofs.YtabgkfkjnpcbkaaDoor.Df
