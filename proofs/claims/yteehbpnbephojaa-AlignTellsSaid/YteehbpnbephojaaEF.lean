/-
  diff.Play, diff.Turn.
-/
import Derived.Test.YteehbpnbephojaaEE
namespace Go.Proofs.Yteehbpnbephojaa.Df
open Go Go.RowKit Kt Lw

theorem vs_cut {w : World} {P : Nat → Prop} {A : Option Addr} {c : Nat} {l : Ls} (h : Vs w P A c (texts l)) {i j : Nat} (hij : i ≤ j) (hj : j ≤ l.length) :
    Vs w P (if c = i then A else A.map (·.add i)) (c - i) (texts ((l.drop i).take (j - i))) := by
  have h1 := h.1
  rw [texts_len] at h1
  refine ⟨by rw [texts_len, List.length_take, List.length_drop]; omega, fun hn => ?_⟩
  rw [texts_len, List.length_take, List.length_drop] at hn
  obtain ⟨b, o, rfl, hp, hc⟩ := h.2 (by rw [texts_len]; omega)
  rw [if_neg (by omega)]
  refine ⟨b, o + i, by simp [Addr.add_mid], hp, fun k v hk => ?_⟩
  have hkl := (List.getElem?_eq_some_iff.1 hk).1
  rw [texts_len, List.length_take, List.length_drop] at hkl
  rw [show o + i + k = o + (i + k) from by omega]
  refine hc (i + k) v ?_
  rw [← hk]
  unfold texts
  rw [List.getElem?_map, List.getElem?_map, List.getElem?_take, if_pos (by omega), List.getElem?_drop]

theorem own_ne {w : World} {B g : Nat} {v : Value} {l : Ls} {cs : List Value} (hrow : Row w g tE cs) (hown : OwT w B tS v l) : some g ≠ v.ownBlock := by
  intro h
  rcases hown.2 with ⟨rfl, _⟩ | ⟨g', cap', cur', rfl, _, hgg', _⟩
  · cases h
  · simp only [Value.ownBlock, Option.some.injEq] at h
    subst h
    unfold Row at hrow
    rw [hgg'] at hrow
    simp [tS, tE] at hrow
theorem run_cut2 (w : World) (A : Option Addr) (n c i j : Nat) (hij : i ≤ j) (hj : j ≤ c) :
    (Instr.slice 22 (.slice A n c) (some (.int .i64 (i : Int))) (some (.int .i64 (j : Int))) none).run Try.prog w = .ok (.slice (if c = i then A else A.map (·.add i)) (j - i) (c - i)) w := by
  have hu := run_underlying Try.underlying22
  cases A with
  | none => go_simp
  | some ad => go_simp
theorem run_cut1 (w : World) (A : Option Addr) (n c i : Nat) (hi : i ≤ n) :
    (Instr.slice 22 (.slice A n c) (some (.int .i64 (i : Int))) none none).run Try.prog w = .ok (.slice (if c = i then A else A.map (·.add i)) (n - i) (c - i)) w := by
  have hu := run_underlying Try.underlying22
  cases A with
  | none => go_simp
  | some ad => go_simp

end Go.Proofs.Yteehbpnbephojaa.Df
