/-
  The reference's Edits.
-/
import Derived.Test.YtfmmececocilhaaHX
import Derived.Test.YtfmmececocilhaaPF
namespace Go.Proofs.Ytfmmececocilhaa.Hu
open Go Go.RowKit Kt Lw Li Df

theorem okF_all : ∀ (L : Ls) (p : Bool), okF p L = true → ∀ x ∈ L, sg x = 32 ∨ sg x = 45 ∨ sg x = 43
  | [], _, _, x, h => by cases h
  | y :: l, p, h, x, hx => by
    obtain ⟨⟨h1, _⟩, h3⟩ := (okF_cons p y l).1 h
    rcases List.mem_cons.1 hx with rfl | hx
    · exact h1
    · exact okF_all l _ h3 x hx
theorem edL_45 (x : List UInt8) (l : Ls) (z : Int) (e : Ed) (h : sg x = 45) : edL z (some e) (x :: l) = edL (z + 1) (some ⟨e.pos, e.del + 1, e.ins⟩) l := by
  rw [edL, if_neg (by rw [h]; decide), if_pos h]; rfl
theorem edL_43 (x : List UInt8) (l : Ls) (z : Int) (e : Ed) (h : sg x = 43) : edL z (some e) (x :: l) = edL z (some ⟨e.pos, e.del, e.ins ++ [x.tail]⟩) l := by
  rw [edL, if_neg (by rw [h]; decide), if_neg (by rw [h]; decide)]; rfl
theorem edL_32 (x : List UInt8) (l : Ls) (z : Int) (o : Option Ed) (h : sg x = 32) : edL z o (x :: l) = o.toList ++ edL (z + 1) none l := by
  rw [edL, if_pos h]
theorem cut_one_tail {x : List UInt8} (h : x ≠ []) : (ByteArray.mk x.toArray).extract 1 x.length = ⟨x.tail.toArray⟩ := by
  cases x with
  | nil => exact absurd rfl h
  | cons s t => exact cut_tail t s
/-- the state of the reference's loop -/
def ES (w : World) (B : Nat) (v u : Value) (z : Int) (k : Nat) (R : Ls) (T : List Ed) : Prop :=
  (u = .bool false ∧ ∃ L, OwE w B v L ∧ L ++ edL z none R = T ∧ L.length ≤ k) ∨
  (u = .bool true ∧ ∃ g cap Ai ci O p d I, v = .slice (some ⟨g, 0, none⟩) (O.length + 1) cap ∧ OwL w B g cap (.slice Ai I.length ci) O ⟨p, d, I⟩ ∧ O ++ edL z (some ⟨p, d, I⟩) R = T ∧ O.length + 1 ≤ k ∧ (0 ≤ d ∧ d ≤ k) ∧ I.length ≤ k)
theorem ES.stay {w : World} {B : Nat} {v u : Value} {z : Int} {k : Nat} {x : List UInt8} {R : Ls} {T : List Ed} (h : ES w B v u z k (x :: R) T) (hx : sg x = 32) : ES w B v (.bool false) (z + 1) (k + 1) R T := by
  refine .inl ⟨rfl, ?_⟩
  rcases h with ⟨rfl, L, h1, h2, h3⟩ | ⟨rfl, g, cap, Ai, ci, O, p, d, I, rfl, h1, h2, h3, _, _⟩
  · exact ⟨L, h1, by rw [edL_32 _ _ _ _ hx] at h2; exact h2, by omega⟩
  · refine ⟨_, h1.owe, ?_, by rw [List.length_append, List.length_singleton]; omega⟩
    rw [edL_32 _ _ _ _ hx] at h2
    rw [← h2, List.append_assoc]
    rfl
theorem ES.ends {w : World} {B : Nat} {v u : Value} {z : Int} {k : Nat} {T : List Ed} (h : ES w B v u z k [] T) : OwE w B v T := by
  rcases h with ⟨rfl, L, h1, h2, h3⟩ | ⟨rfl, g, cap, Ai, ci, O, p, d, I, rfl, h1, h2, h3, _, _⟩
  · rw [edL] at h2
    rw [← h2]
    simpa using h1
  · rw [edL] at h2
    rw [← h2]
    exact h1.owe
end Go.Proofs.Ytfmmececocilhaa.Hu
