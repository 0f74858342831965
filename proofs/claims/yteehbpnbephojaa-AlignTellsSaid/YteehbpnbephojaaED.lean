/-
  diff.Size, diff.Right: over a slice of edits.
-/
import Derived.Test.YteehbpnbephojaaEC
import Derived.Test.YteehbpnbephojaaQ1
namespace Go.Proofs.Yteehbpnbephojaa.Df
open Go Go.RowKit Kt Lw

theorem size_pos : ∀ L : List Ed, 0 ≤ size L
  | [] => Int.le_refl _
  | e :: l => by rw [size]; have := size_pos l; omega
theorem size_take (L : List Ed) (k : Nat) : size (L.take k) ≤ size L := by
  have h := size_append (L.take k) (L.drop k)
  rw [List.take_append_drop] at h
  have := size_pos (L.drop k)
  omega
theorem size_snoc (L : List Ed) (k : Nat) (e : Ed) (h : L[k]? = some e) : size (L.take (k + 1)) = size (L.take k) + (max 0 e.del + e.ins.length) := by
  rw [List.take_add_one, h, size_append]
  simp [size]
/-- the edit number k, in a world behind -/
theorem Es.at {w w' : World} {A : Option Addr} {c : Nat} {L : List Ed} (h : Es w A c L) (hb : Below w.heap.size w w') {k : Nat} (hk : k < L.length) :
    ∃ b o e A' c', A = some ⟨b, o, none⟩ ∧ L[k]? = some e ∧ (w'.cell? ⟨b, o + k * 3, none⟩ = some (.int .i64 e.pos) ∧ w'.cell? ⟨b, o + k * 3 + 1, none⟩ = some (.int .i64 e.del) ∧ w'.cell? ⟨b, o + k * 3 + 2, none⟩ = some (.slice A' e.ins.length c')) ∧ Vs w (fun b => b < w.heap.size) A' c' (texts e.ins) := by
  obtain ⟨b, o, rfl, hlt, he⟩ := h.2 (by omega)
  obtain ⟨A', c', h1, h2⟩ := he k _ (List.getElem?_eq_getElem hk)
  rw [Nat.mul_comm] at h1
  have h3 : ∀ i v, (edC L[k] (.slice A' (L[k]).ins.length c'))[i]? = some v → w'.cell? ⟨b, o + k * 3 + i, none⟩ = some v := fun i v hi => (World.cell?_of_block (a := ⟨b, o + k * 3 + i, none⟩) (hb.block b hlt)).trans (h1 i v hi)
  exact ⟨b, o, _, A', c', rfl, List.getElem?_eq_getElem hk, ⟨h3 0 _ rfl, h3 1 _ rfl, h3 2 _ rfl⟩, h2⟩
theorem box_kept {w w2 : World} {B : Nat} {v : Value} {l : Ls} {cs : Array Value} {t : TypeId} (hown : OwT w B tS v l) (hg : (w.alloc (.cells cs t)).grownBy w2 v.ownBlock) : Row w2 w.heap.size t cs.toList :=
  (Row.fresh w t cs).grown hg (fun h => by have := (World.ownsRow.lt hown _ h.symm).2; omega)

end Go.Proofs.Yteehbpnbephojaa.Df
