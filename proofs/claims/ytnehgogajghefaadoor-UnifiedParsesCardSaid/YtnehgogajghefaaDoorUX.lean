/-
  unified: hunks of a size that the statements look at; how long what is printed is.
-/
import Derived.Test.YtnehgogajghefaaDoorQ9
import Derived.Test.YtnehgogajghefaaDoorQ10
import Derived.Test.YtnehgogajghefaaDoorUG
namespace Go.Proofs.YtnehgogajghefaaDoor.Un
open Go Go.RowKit Kt Lw Li Df Hu

def lnB (x : List UInt8) : Nat := min x.length 500 + 1
def totL (l : Ls) : Nat := (l.map lnB).sum
def tot (L : List Hk) : Nat := (L.map fun h => totL h.lines).sum
end Go.Proofs.YtnehgogajghefaaDoor.Un
namespace Go.Proofs.YtnehgogajghefaaDoor.Un
open Go Go.RowKit Kt Lw Li Df Hu

theorem lineT_len (x : List UInt8) : x.length ≤ (lineT x).length ∧ (lineT x).length ≤ x.length + 29 := by
  unfold lineT
  split
  · omega
  · rw [List.length_append]
    have : (10 :: markB).length = 29 := rfl
    omega
theorem flat_mem {α β : Type} (f : α → List β) {x : α} : ∀ {l : List α}, x ∈ l → (f x).length ≤ ((l.map f).flatten).length
  | y :: l, h => by
    rw [List.map_cons, List.flatten_cons, List.length_append]
    rcases List.mem_cons.1 h with h | h
    · rw [h]; omega
    · have := flat_mem f h; omega
theorem flat_count {α β : Type} (f : α → List β) : ∀ {l : List α}, (∀ x ∈ l, 1 ≤ (f x).length) → l.length ≤ ((l.map f).flatten).length
  | [], _ => Nat.le_refl _
  | y :: l, h => by
    have h1 := flat_count f (l := l) fun x hx => h x (List.mem_cons_of_mem _ hx)
    have h2 := h y List.mem_cons_self
    rw [List.map_cons, List.flatten_cons, List.length_append, List.length_cons]; omega
theorem hkT_ne (h : Hk) : 1 ≤ (hkT h).length := by
  rw [hkT, headT]; simp [opensB]
theorem tell_fit {l : List Hk} (h : l.all tell = true) (m : Nat) (hm : m ≤ 100000) (hl : ((l.map hkT).flatten).length ≤ m) : (∀ h ∈ l, Fit h) ∧ l.length ≤ m ∧ ∀ h ∈ l, h.lines.length ≤ m := by
  have key : ∀ e ∈ l, e.lines.length ≤ m ∧ ∀ x ∈ e.lines, x.length ≤ m := fun e he => by
    have h1 := tell_iff.1 (List.all_eq_true.1 h e he)
    have h2 := flat_mem hkT he
    have h3 : (hkT e).length = (headT e.a e.an e.b e.bn).length + ((e.lines.map lineT).flatten).length := by rw [hkT, List.length_append]
    have h4 := flat_count lineT (l := e.lines) fun x hx => by
      have h5 := one_ne (h1.2.2.2.2.2 x hx)
      have h6 := (lineT_len x).1
      have h7 : 0 < x.length := List.length_pos_iff.2 h5
      omega
    refine ⟨by omega, fun x hx => ?_⟩
    have h5 := flat_mem lineT hx
    have h6 := (lineT_len x).1
    omega
  refine ⟨fun e he => ?_, ?_, fun e he => (key e he).1⟩
  · obtain ⟨h1, h2, h3, _⟩ := tell_iff.1 (List.all_eq_true.1 h e he)
    obtain ⟨k1, k2⟩ := key e he
    have p2 := h2.1
    have p3 := h2.2.1
    have p4 := h2.2.2.2
    have q2 := h3.1
    have q3 := h3.2.1
    have q4 := h3.2.2.2
    unfold plc at p4 q4
    exact ⟨by omega, by omega, by omega, fun x hx => Nat.le_trans (k2 x hx) (by omega)⟩
  · exact Nat.le_trans (flat_count hkT fun x _ => hkT_ne x) hl
theorem prt_flat {l : List Hk} (h : l.all tell = true) : prt l = (l.map hkT).flatten := if_pos h
theorem run_none : ∀ (l : Ls) (s : St) (n m : Nat), run s l n = (m, none) → n < m
  | [], s, n, m, h => by
    rw [run] at h
    simp at h
  | x :: l, s, n, m, h => by
    rw [run] at h
    cases hq : step s x with
    | none =>
      rw [hq] at h
      simp at h
      omega
    | some s2 =>
      rw [hq] at h
      have := run_none l s2 (n + 1) m h
      omega
theorem parse_no {t : List UInt8} (h : (parse t).2.2 ≠ 0) : (parse t).1 = [] ∧ 1 ≤ (parse t).2.1 := by
  revert h
  unfold parse fin
  split
  · rename_i hs
    intro _
    have := run_none (lns t) ⟨[], 0, 0⟩ 0 _ (Prod.ext rfl hs)
    exact ⟨rfl, this⟩
  · split
    · intro h; exact absurd rfl h
    · intro _; exact ⟨rfl, by simp⟩
end Go.Proofs.YtnehgogajghefaaDoor.Un
