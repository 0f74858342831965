/-
  Two trees' paths: the first one; how many files have it; the iterator's contract.
-/
import Derived.BigQuiet
import Derived.Test.YtahcokfoifdlmaaGreatDoorQOA
import Derived.Test.YtahcokfoifdlmaaGreatDoorQPR
import Derived.RangeFuncNested
import Derived.RangeFuncBound
import Derived.RangeFuncCalls
import Derived.RangeFuncLeaves
import Derived.RangeFuncBox
import Derived.Shelf.Abstract
import Derived.Shelf.RegionOpen
import Derived.WalkKit
import Derived.OwnWalkIn
import Derived.TacticsInMore
import Derived.LoopNIn
import Derived.LoopIn
import Derived.Maps.AppendAt
import Derived.Test.YtahcokfoifdlmaaGreatDoorKit
import Derived.Test.YtahcokfoifdlmaaGreatDoorLA
import Derived.Test.YtahcokfoifdlmaaGreatDoorShelf
namespace Go.Proofs.YtahcokfoifdlmaaGreatDoor.Tr
open Go Go.RowKit Go.Shelf Kt Lw Li Lx Df

/-- what a loop over the paths may turn: two blocks, and what is laid later -/
def Thr (n0 n1 p q : Nat) (A B : World) : Prop := Below n0 A B ∧ ∀ k, k < n1 → k ≠ p → k ≠ q → B.heap[k]? = A.heap[k]?
theorem Thr.trans {n0 n1 p q : Nat} {A B C : World} (h : Thr n0 n1 p q A B) (h' : Thr n0 n1 p q B C) : Thr n0 n1 p q A C :=
  ⟨h.1.trans h'.1, fun k hk hp hq => (h'.2 k hk hp hq).trans (h.2 k hk hp hq)⟩
theorem Thr.of {n0 n1 p q m : Nat} {A B : World} (h : Below m A B) (h0 : n0 ≤ m) (h1 : n1 ≤ m) : Thr n0 n1 p q A B := ⟨h.mono h0, fun k hk _ _ => h.block k (by omega)⟩
theorem Thr.put {n0 n1 p q : Nat} {w : World} (h0 : n0 ≤ w.heap.size) (h1 : n1 ≤ w.heap.size) (W : World) (l : Nat) (o o' : Obj) (hl : w.heap.size ≤ l) (h : W.heap[l]? = some o) (ho : o.isCells = false) (hw : o.isWalk = false) : Thr n0 n1 p q W (W.putObj l o') :=
  ⟨belowK_b h0 W l o o' hl h ho hw, fun k hk _ _ => (belowK_b h1 W l o o' hl h ho hw).block k hk⟩
theorem grown_none {A B : World} (h : Below A.heap.size A B) : A.grownBy B none := ⟨h.os, h.tape, h.output, h.size, fun k hk _ => h.block k hk⟩
theorem run_lss (p q : Bs) (w : World) : (binOp .lss 9 (.string ⟨p.toArray⟩) (.string ⟨q.toArray⟩)).run Tryz.prog w = .ok (.bool (lt p q)) w := by
  show (Op.stringOp .lss ⟨p.toArray⟩ ⟨q.toArray⟩).run Tryz.prog w = _
  simp only [Op.stringOp, Lib.toList_data]
  rfl
set_option maxRecDepth 100000 in
set_option maxHeartbeats 4000000 in
theorem bfirst_any (x y : List Fl) (A A' : Option Addr) (c c' : Nat) (w : World) (hx : Fls w A c x) (hy : Fls w A' c' y) (h : x ≠ [] ∨ y ≠ []) :
    Calls Tryz.prog 41 #[.slice A x.length c, .slice A' y.length c'] w fun e w' => e = .returned (.string ⟨(fst2 x y).toArray⟩) ∧ ∃ m, w' = w.drewN m := by
  have hrl := fun p q w => run_lss p q w
  cases x with
  | nil =>
    cases y with
    | nil => exact absurd rfl (h.elim id id)
    | cons g y =>
      obtain ⟨b, o, f, rfl, _, hf, _, d0, _⟩ := hy.at (w' := w) (Below.refl _ _) (k := 0) (by simp)
      obtain rfl : g = f := Option.some.inj hf
      have HF := hide (show fst2 [] (g :: y) = g.path from rfl)
      obtain ⟨N, hN⟩ : ∃ N, N = (g :: y).length := ⟨_, rfl⟩
      have hpos : 0 < N := by rw [hN]; simp
      rw [← hN]
      simp only [Nat.zero_mul, Nat.add_zero, List.length_nil] at d0 ⊢
      clear hx hy h hf hN
      go_enter Tryz.func41, Tryz.ntmps41
      go_wp2
      go_quiet (fail)
      go_wp2
      go_ret
      exact ⟨by rw [HF.out]; rfl, _, rfl⟩
  | cons f x =>
    obtain ⟨b, o, f', rfl, _, hf, _, d0, _⟩ := hx.at (w' := w) (Below.refl _ _) (k := 0) (by simp)
    obtain rfl : f = f' := Option.some.inj hf
    obtain ⟨N, hN⟩ : ∃ N, N = (f :: x).length := ⟨_, rfl⟩
    have hpos : 0 < N := by rw [hN]; simp
    rw [← hN]
    simp only [Nat.zero_mul, Nat.add_zero] at d0
    have dn : decide ((N : Int) = 0) = false := decide_eq_false (by omega)
    have dn2 : ((N : Int) == 0) = false := by rw [beq_eq_false_iff_ne]; omega
    cases y with
    | nil =>
      have HF := hide (show fst2 (f :: x) [] = f.path from rfl)
      simp only [List.length_nil]
      clear hx hy h hf hN
      go_enter Tryz.func41, Tryz.ntmps41
      go_wp2
      go_quiet (fail)
      go_wp2
      go_ret
      exact ⟨by rw [HF.out]; rfl, _, rfl⟩
    | cons g y =>
      obtain ⟨b2, o2, g', rfl, _, hg, _, e0, _⟩ := hy.at (w' := w) (Below.refl _ _) (k := 0) (by simp)
      obtain rfl : g = g' := Option.some.inj hg
      have HF := hide (show fst2 (f :: x) (g :: y) = if lt g.path f.path then g.path else f.path from rfl)
      obtain ⟨M, hM⟩ : ∃ M, M = (g :: y).length := ⟨_, rfl⟩
      have hposM : 0 < M := by rw [hM]; simp
      rw [← hM]
      simp only [Nat.zero_mul, Nat.add_zero] at e0
      have dm : decide ((0 : Int) < (M : Int)) = true := decide_eq_true (by omega)
      cases hl : lt g.path f.path with
      | true =>
        rw [hl, if_pos rfl] at HF
        clear hx hy h hf hN hg hM
        go_enter Tryz.func41, Tryz.ntmps41
        go_wp2
        go_quiet (fail)
        go_wp2
        go_ret
        exact ⟨by rw [HF.out]; rfl, _, rfl⟩
      | false =>
        rw [hl, if_neg (by decide)] at HF
        clear hx hy h hf hN hg hM
        go_enter Tryz.func41, Tryz.ntmps41
        go_wp2
        go_quiet (fail)
        go_wp2
        go_ret
        exact ⟨by rw [HF.out]; rfl, _, rfl⟩
set_option maxRecDepth 100000 in
set_option maxHeartbeats 4000000 in
theorem bbegins_any (x : List Fl) (p : Bs) (A : Option Addr) (c : Nat) (w : World) (hx : Fls w A c x) :
    Calls Tryz.prog 42 #[.slice A x.length c, .string ⟨p.toArray⟩] w fun e w' => e = .returned (.int .i64 (beg x p : Nat)) ∧ w' = w := by
  cases x with
  | nil =>
    have HF := hide (show beg [] p = 0 from rfl)
    simp only [List.length_nil]
    clear hx
    go_enter Tryz.func42, Tryz.ntmps42
    go_wp2
    go_ret
    exact ⟨by rw [HF.out]; rfl, rfl⟩
  | cons f x =>
    obtain ⟨b, o, f', rfl, _, hf, _, d0, _⟩ := hx.at (w' := w) (Below.refl _ _) (k := 0) (by simp)
    obtain rfl : f = f' := Option.some.inj hf
    obtain ⟨N, hN⟩ : ∃ N, N = (f :: x).length := ⟨_, rfl⟩
    have hpos : 0 < N := by rw [hN]; simp
    rw [← hN]
    simp only [Nat.zero_mul, Nat.add_zero] at d0
    have dm : decide ((0 : Int) < (N : Int)) = true := decide_eq_true (by omega)
    have HF := hide (show beg (f :: x) p = if f.path = p then 1 else 0 from rfl)
    cases hb : (f.path == p) with
    | true =>
      rw [if_pos (by simpa using hb)] at HF
      clear hx hf hN
      go_enter Tryz.func42, Tryz.ntmps42
      go_wp2
      go_ret
      exact ⟨by rw [HF.out]; rfl, rfl⟩
    | false =>
      rw [if_neg (by simpa using hb)] at HF
      clear hx hf hN
      go_enter Tryz.func42, Tryz.ntmps42
      go_wp2
      go_ret
      exact ⟨by rw [HF.out]; rfl, rfl⟩
theorem paths_any (Aa Ab : Option Addr) (na nb ca cb : Nat) (w : World) :
    Calls Tryz.prog 24 #[.slice Aa na ca, .slice Ab nb cb] w fun e w' => e = .returned (.func (.func 40) #[] #[.pointer (some ⟨w.heap.size, 0, none⟩), .pointer (some ⟨w.heap.size + 1, 0, none⟩)]) ∧ w' = (w.alloc (.cells #[.slice Aa na ca] 22)).alloc (.cells #[.slice Ab nb cb] 22) := by
  go_enter Tryz.func24, Tryz.ntmps24
  go_wp2
  go_ret
  exact ⟨rfl, rfl⟩
end Go.Proofs.YtahcokfoifdlmaaGreatDoor.Tr
