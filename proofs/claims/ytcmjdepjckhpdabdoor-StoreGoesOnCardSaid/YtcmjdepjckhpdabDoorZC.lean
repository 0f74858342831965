/-
  The reference's store in memory: Has, Get, Record.
-/
import Derived.Test.YtcmjdepjckhpdabDoorQZB
import Derived.Test.YtcmjdepjckhpdabDoorQSE
import Derived.Test.YtcmjdepjckhpdabDoorRfE
import Derived.Test.YtcmjdepjckhpdabDoorWD
import Derived.Deep.AppendLies
import Derived.Test.YtcmjdepjckhpdabDoorRegC
namespace Go.Proofs.YtcmjdepjckhpdabDoor.So
open Go Go.RowKit Kt Kg Wr Lw Sha Dk

abbrev tId : TypeId := 35
abbrev tS : TypeId := 9
abbrev tIds : TypeId := 42
abbrev tSs : TypeId := 22
/-- texts in a row whose block is one of S -/
def OTS (w : World) (S : Nat → Prop) (E : TypeId) (v : Value) (l : List Bs) : Prop := OwT w 0 E v l ∧ ∀ g, v.ownBlock = some g → S g
theorem OTS.nil (w : World) (S : Nat → Prop) (E : TypeId) : OTS w S E (.slice none 0 0) [] := ⟨OwT.nil _ _ _, fun g h => by cases h⟩
theorem OTS.lt {w : World} {S : Nat → Prop} {E : TypeId} {v : Value} {l : List Bs} (h : OTS w S E v l) {g : Nat} (hg : v.ownBlock = some g) : g < w.heap.size := (World.ownsRow.lt h.1 g hg).2
theorem OTS.imp {w : World} {S T : Nat → Prop} {E : TypeId} {v : Value} {l : List Bs} (h : OTS w S E v l) (hi : ∀ b, b < w.heap.size → S b → T b) : OTS w T E v l := ⟨h.1, fun g hg => hi g (h.lt hg) (h.2 g hg)⟩
theorem OTS.move {w w' : World} {S : Nat → Prop} {E : TypeId} {v : Value} {l : List Bs} (h : OTS w S E v l) (hk : ∀ b, S b → b < w.heap.size → w'.heap[b]? = w.heap[b]?) : OTS w' S E v l := by
  refine ⟨⟨h.1.1, ?_⟩, h.2⟩
  rcases h.1.2 with h1 | ⟨g, cap, cur, hv, h1, h2, h3⟩
  · exact .inl h1
  · exact .inr ⟨g, cap, cur, hv, h1, (hk g (h.2 g (by rw [hv]; rfl)) (Array.getElem?_eq_some_iff.1 h2).1).trans h2, h3⟩
theorem OTS.vs {w : World} {S : Nat → Prop} {E : TypeId} {v : Value} {l : List Bs} (h : OTS w S E v l) : ∃ A c, v = .slice A l.length c ∧ Vs w S A c (texts l) := by
  obtain ⟨A, c, e, hv⟩ := h.1.vs
  exact ⟨A, c, e, hv.1, fun hn => by
    obtain ⟨b, o, e1, hp, hc⟩ := hv.2 hn
    exact ⟨b, o, e1, h.2 b hp.2, hc⟩⟩
/-- a text of a slice of texts -/
theorem vs_at {w : World} {S : Nat → Prop} {A : Option Addr} {c : Nat} {l : List Bs} (h : Vs w S A c (texts l)) {k : Nat} {x : Bs} (hk : l[k]? = some x) : ∃ b o, A = some ⟨b, o, none⟩ ∧ S b ∧ w.cell? ⟨b, o + k, none⟩ = some (.string ⟨x.toArray⟩) := by
  have hlt := (List.getElem?_eq_some_iff.1 hk).1
  obtain ⟨b, o, e, hp, hc⟩ := h.2 (by rw [texts_len]; omega)
  refine ⟨b, o, e, hp, hc k _ ?_⟩
  unfold texts
  rw [List.getElem?_map, hk]; rfl
section
variable {w w' : World} {S T : Nat → Prop} {gs gd : Nat} {L : List Bs}
end
end Go.Proofs.YtcmjdepjckhpdabDoor.So
