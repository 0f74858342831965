/-
  Hunks edit by edit, as the reference makes them: on lists alone.
-/
import Derived.Test.YtnehgogajghefaaGreatDoorQ5
namespace Go.Proofs.YtnehgogajghefaaGreatDoor.Hu
open Df

/-- a hunk's lines, without those that stay behind its last edit -/
def body (a : Ls) : Nat → List Ed → Ls
  | _, [] => []
  | z, e :: g => (mk 32 ((a.drop z).take (e.pos.toNat - z)) ++ (mk 45 ((a.drop e.pos.toNat).take e.del.toNat) ++ mk 43 e.ins)) ++ body a (e.pos.toNat + e.del.toNat) g
def endB : Nat → List Ed → Nat
  | z, [] => z
  | _, e :: g => endB (e.pos.toNat + e.del.toNat) g
theorem pts_body (a : Ls) (r : Nat) : ∀ (g : List Ed) (z : Nat), lay (pts a r z g) = body a z g ++ mk 32 ((a.drop (endB z g)).take r)
  | [], z => by
    rw [pts, body, endB]
    split
    · rename_i h; rw [h]; rfl
    · simp [lay, layP, mk_nil]
  | e :: g, z => by
    rw [pts, lay, pts_body a r g, body, endB, layP]
    simp only [List.append_assoc]
theorem body_snoc (a : Ls) : ∀ (g : List Ed) (z : Nat) (f : Ed), body a z (g ++ [f]) = body a z g ++ (mk 32 ((a.drop (endB z g)).take (f.pos.toNat - endB z g)) ++ (mk 45 ((a.drop f.pos.toNat).take f.del.toNat) ++ mk 43 f.ins))
  | [], z, f => by simp [body, endB]
  | e :: g, z, f => by
    rw [List.cons_append, body, body_snoc a g, body, endB]
    simp only [List.append_assoc]
theorem endB_snoc : ∀ (g : List Ed) (z : Nat) (f : Ed), endB z (g ++ [f]) = f.pos.toNat + f.del.toNat
  | [], _, _ => rfl
  | e :: g, z, f => by rw [List.cons_append, endB, endB_snoc g]
/-- where a group of right edits ends -/
theorem endB_last (n : Nat) : ∀ (g : List Ed) (z : Nat) (last : Int), right n last g = true → -1 ≤ last → ((endB z g : Nat) : Int) = lastF z g
  | [], _, _, _, _ => rfl
  | e :: g, z, last, hr, hl => by
    obtain ⟨p, d, ep, ed, hpd, hlp, hne, hr'⟩ := right_head hr hl
    have hf : fin e = ((p + d : Nat) : Int) := by unfold fin; rw [ep, ed]; omega
    rw [endB, lastF, hf, ep, ed]
    simp only [Int.toNat_natCast]
    exact endB_last n g _ _ hr' (by omega)
theorem lastF_snoc : ∀ (g : List Ed) (z : Int) (f : Ed), lastF z (g ++ [f]) = fin f
  | [], _, _ => rfl
  | e :: g, z, f => by rw [List.cons_append, lastF, lastF_snoc g]
/-- a group is one to its end -/
def Whole (r : Nat) (e : Ed) (g : List Ed) : Prop := spl r e g = (g, [])
theorem Whole.nil (r : Nat) (e : Ed) : Whole r e [] := rfl
theorem Whole.tail {r : Nat} {e f : Ed} {g : List Ed} (h : Whole r e (f :: g)) : f.pos - fin e ≤ 2 * r ∧ Whole r f g := by
  unfold Whole at h
  rw [spl] at h
  split at h
  · rename_i hc
    refine ⟨hc, ?_⟩
    unfold Whole
    injection h with h1 h2
    injection h1 with _ h1
    exact Prod.ext h1 h2
  · injection h with h1 _
    cases h1
/-- .. and is no longer, where what follows is far -/
theorem Whole.far {r : Nat} : ∀ {g : List Ed} {e : Ed} (l : List Ed), Whole r e g → (∀ f t, l = f :: t → 2 * r < f.pos - lastF (fin e) g) → spl r e (g ++ l) = (g, l)
  | [], e, [], _, _ => rfl
  | [], e, f :: t, _, hf => by
    have := hf f t rfl
    rw [lastF] at this
    rw [List.nil_append, spl, if_neg (by omega)]
  | f :: g, e, l, h, hf => by
    obtain ⟨h1, h2⟩ := h.tail
    have ih := Whole.far l h2 (fun f' t' he => by have := hf f' t' he; rwa [lastF] at this)
    rw [List.cons_append, spl, if_pos h1, ih]
/-- one more that is near -/
theorem Whole.snoc {r : Nat} : ∀ {g : List Ed} {e f : Ed}, Whole r e g → f.pos - lastF (fin e) g ≤ 2 * r → Whole r e (g ++ [f])
  | [], e, f, _, h => by
    rw [lastF] at h
    unfold Whole
    rw [List.nil_append, spl, if_pos h]; rfl
  | f' :: g, e, f, h, hf => by
    obtain ⟨h1, h2⟩ := h.tail
    rw [lastF] at hf
    have ih := Whole.snoc h2 hf
    unfold Whole at ih ⊢
    rw [List.cons_append, spl, if_pos h1, ih]
/-- a group that ends is a hunk -/
theorem mk_close (a : Ls) (r : Nat) (more last : Int) (e : Ed) (g l : List Ed) (hw : Whole r e g) (hf : ∀ f t, l = f :: t → 2 * r < f.pos - lastF (fin e) g) (hr : right a.length last (e :: g) = true) (hl : -1 ≤ last) :
    mkHs a r more (e :: (g ++ l)) = oneH a r more (e :: g) (from_ r e) :: mkHs a r (more + delta (e :: g)) l := by
  rw [mkHs_cons, hw.far l hf]
  have := pts_delta a r (e :: g) (from_ r e) last hr hl
  simp only [oneH]
  rw [this]
end Go.Proofs.YtnehgogajghefaaGreatDoor.Hu
