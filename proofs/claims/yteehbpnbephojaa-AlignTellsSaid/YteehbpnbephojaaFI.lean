/-
  A row of edits whose last is still written.
-/
import Derived.Test.YteehbpnbephojaaQ4
import Derived.Test.YteehbpnbephojaaEV
namespace Go.Proofs.Yteehbpnbephojaa.Df
open Go Go.RowKit Kt Lw

def slen : Value → Nat
  | .slice _ n _ => n
  | _ => 0
/-- the state of the reference's loop -/
def St (w : World) (B : Nat) (v u : Value) (q : Nat) (xs ys : Ls) (T : List Ed) : Prop :=
  (u = .bool false ∧ ∃ L, OwE w B v L ∧ L ++ go xs ys q 0 [] = T ∧ L.length + xs.length + ys.length ≤ 400) ∨
  (u = .bool true ∧ ∃ g cap Ai ci O p d I, v = .slice (some ⟨g, 0, none⟩) (O.length + 1) cap ∧ OwL w B g cap (.slice Ai I.length ci) O ⟨(p : Nat), (d : Nat), I⟩ ∧ (d ≠ 0 ∨ I ≠ []) ∧ q = p + d ∧ O ++ go xs ys p d I = T ∧ O.length + 1 + xs.length + ys.length ≤ 400 ∧ I.length + ys.length ≤ 400)
theorem St.drewN {w : World} {B : Nat} {v u : Value} {q : Nat} {xs ys : Ls} {T : List Ed} (h : St w B v u q xs ys T) (n : Nat) : St (w.drewN n) B v u q xs ys T := h
theorem St.stay {w : World} {B : Nat} {v u : Value} {q : Nat} {x : List UInt8} {xs ys : Ls} {T : List Ed} (h : St w B v u q (x :: xs) (x :: ys) T) : St w B v (.bool false) (q + 1) xs ys T := by
  refine .inl ⟨rfl, ?_⟩
  rcases h with ⟨rfl, L, h1, h2, h3⟩ | ⟨rfl, g, cap, Ai, ci, O, p, d, I, rfl, h1, h2, rfl, h3, h4, h5⟩
  · refine ⟨L, h1, ?_, by simp at h3; omega⟩
    rw [go_both, if_pos rfl] at h2
    simpa [emit] using h2
  · refine ⟨_, h1.owe, ?_, by simp at h4 ⊢; omega⟩
    rw [go_both, if_pos rfl] at h3
    rw [← h3, List.append_assoc]
    congr 2
    unfold emit
    rw [if_neg (by intro h; rcases h2 with h2 | h2; exact h2 h.1; exact h2 h.2)]
theorem St.ends {w : World} {B : Nat} {v u : Value} {q : Nat} {T : List Ed} (h : St w B v u q [] [] T) : OwE w B v T := by
  rcases h with ⟨rfl, L, h1, h2, h3⟩ | ⟨rfl, g, cap, Ai, ci, O, p, d, I, rfl, h1, h2, rfl, h3, h4, h5⟩
  · rw [go_nil] at h2
    have : L = T := by simpa [emit] using h2
    rw [← this]
    exact h1
  · rw [go_nil] at h3
    rw [← h3]
    unfold emit
    rw [if_neg (by intro h; rcases h2 with h2 | h2; exact h2 h.1; exact h2 h.2)]
    exact h1.owe
theorem vs_tail {w : World} {P : Nat → Prop} {A : Option Addr} {c : Nat} {x : List UInt8} {xs : Ls} (h : Vs w P A c (texts (x :: xs))) : Vs w P (if c = 1 then A else A.map (·.add 1)) (c - 1) (texts xs) := by
  have := vs_cut h (i := 1) (j := (x :: xs).length) (by simp) (Nat.le_refl _)
  rw [show ((x :: xs).drop 1).take ((x :: xs).length - 1) = xs by simp] at this
  exact this
theorem run_tail (w : World) (A : Option Addr) (n c : Nat) (hi : 1 ≤ n) :
    (Instr.slice 22 (.slice A n c) (some (.int .i64 1)) none none).run Try.prog w = .ok (.slice (if c = 1 then A else A.map (·.add 1)) (n - 1) (c - 1)) w := run_cut1 w A n c 1 hi
end Go.Proofs.Yteehbpnbephojaa.Df
