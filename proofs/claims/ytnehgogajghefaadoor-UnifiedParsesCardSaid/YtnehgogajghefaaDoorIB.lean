/-
  Hunks edit by edit, as the reference makes them: on lists alone.
-/
import Derived.Test.YtnehgogajghefaaDoorQ8
namespace Go.Proofs.YtnehgogajghefaaDoor.Hu
open Df

/-- a hunk's lines, without those that stay behind its last edit -/
def body (a : Ls) : Nat → List Ed → Ls
  | _, [] => []
  | z, e :: g => (mk 32 ((a.drop z).take (e.pos.toNat - z)) ++ (mk 45 ((a.drop e.pos.toNat).take e.del.toNat) ++ mk 43 e.ins)) ++ body a (e.pos.toNat + e.del.toNat) g
def endB : Nat → List Ed → Nat
  | z, [] => z
  | _, e :: g => endB (e.pos.toNat + e.del.toNat) g
/-- a group is one to its end -/
def Whole (r : Nat) (e : Ed) (g : List Ed) : Prop := spl r e g = (g, [])
theorem Whole.nil (r : Nat) (e : Ed) : Whole r e [] := rfl
theorem Whole.tail {r : Nat} {e f : Ed} {g : List Ed} (h : Whole r e (f :: g)) : f.pos - fin e ≤ 2 * r ∧ Whole r f g := by
  unfold Whole at h
  rw [spl] at h
  split at h
  · rename_i hc
    refine ⟨hc, ?_⟩
    unfold Whole
    injection h with h1 h2
    injection h1 with _ h1
    exact Prod.ext h1 h2
  · injection h with h1 _
    cases h1
/-- .. and is no longer, where what follows is far -/
theorem Whole.far {r : Nat} : ∀ {g : List Ed} {e : Ed} (l : List Ed), Whole r e g → (∀ f t, l = f :: t → 2 * r < f.pos - lastF (fin e) g) → spl r e (g ++ l) = (g, l)
  | [], e, [], _, _ => rfl
  | [], e, f :: t, _, hf => by
    have := hf f t rfl
    rw [lastF] at this
    rw [List.nil_append, spl, if_neg (by omega)]
  | f :: g, e, l, h, hf => by
    obtain ⟨h1, h2⟩ := h.tail
    have ih := Whole.far l h2 (fun f' t' he => by have := hf f' t' he; rwa [lastF] at this)
    rw [List.cons_append, spl, if_pos h1, ih]
end Go.Proofs.YtnehgogajghefaaDoor.Hu
