/-
  The reference's meet and marks; its Same.
-/
import Derived.BigQuiet
import Derived.Test.YtghnieddokhagaaDoorQEB
import Derived.Test.YtghnieddokhagaaDoorQMK
import Derived.Test.YtghnieddokhagaaDoorQKR
import Derived.Test.YtghnieddokhagaaDoorQReg
import Derived.Test.YtghnieddokhagaaDoorQEE
import Derived.Test.YtghnieddokhagaaDoorQEL
namespace Go.Proofs.YtghnieddokhagaaDoor.Al
open Go Go.RowKit Kt Lw Li Df

abbrev tI : TypeId := 3
theorem infoI : (Tryd.prog.info? 3).map (fun i => (i.zero, i.size, i.bytes)) = some (some (.int .i64 0), 1, 8) := by kernel_rfl
/-- the edit number k, in a world behind -/
theorem es_nth {w w' : World} {A : Option Addr} {c : Nat} {L : List Ed} (h : Es w A c L) (hb : Below w.heap.size w w') {k : Nat} (hk : k < L.length) :
    ∃ b o A' c', A = some ⟨b, o, none⟩ ∧ w'.cell? ⟨b, o + k * 3, none⟩ = some (.int .i64 (L.getD k ⟨0, 0, []⟩).pos) ∧ w'.cell? ⟨b, o + k * 3 + 1, none⟩ = some (.int .i64 (L.getD k ⟨0, 0, []⟩).del) ∧ w'.cell? ⟨b, o + k * 3 + 2, none⟩ = some (.slice A' (L.getD k ⟨0, 0, []⟩).ins.length c') := by
  obtain ⟨b, o, rfl, hlt, he⟩ := h.2 (by omega)
  obtain ⟨A', c', h1, _⟩ := he k _ (List.getElem?_eq_getElem hk)
  have e : L.getD k ⟨0, 0, []⟩ = L[k] := by rw [List.getD_eq_getElem?_getD, List.getElem?_eq_getElem hk]; rfl
  rw [e]
  rw [Nat.mul_comm] at h1
  have h3 : ∀ i v, (edC L[k] (.slice A' (L[k]).ins.length c'))[i]? = some v → w'.cell? ⟨b, o + k * 3 + i, none⟩ = some v := fun i v hi => (World.cell?_of_block (a := ⟨b, o + k * 3 + i, none⟩) (hb.block b hlt)).trans (h1 i v hi)
  exact ⟨b, o, A', c', rfl, h3 0 _ rfl, h3 1 _ rfl, h3 2 _ rfl⟩
def mtE (L : List Ed) (x y : Nat) : Bool := meetE (L.getD x ⟨0, 0, []⟩) (L.getD y ⟨0, 0, []⟩)
theorem own_put {w : World} {B : Nat} {E : TypeId} {g n c : Nat} {l : List Int} (h : OwN w B E (.slice (some ⟨g, 0, none⟩) n c) l) (i : Nat) (z : Int) (hn : n = l.length) :
    OwN (w.setCell ⟨g, i, none⟩ (.int .i64 z)) B E (.slice (some ⟨g, 0, none⟩) n c) (l.set i z) ∧ w.grownBy (w.setCell ⟨g, i, none⟩ (.int .i64 z)) (some g) := by
  subst hn
  have := World.ownsRow.stored (cap := c) h i (.int .i64 z)
  refine ⟨?_, this.2⟩
  unfold OwN
  rw [List.length_set]
  have e : nums .i64 (l.set i z) = (nums .i64 l).set i (.int .i64 z) := by unfold nums; rw [List.map_set]
  rw [e]
  exact this.1
end Go.Proofs.YtghnieddokhagaaDoor.Al
