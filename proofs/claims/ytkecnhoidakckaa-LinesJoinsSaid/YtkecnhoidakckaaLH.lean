/-
  The statements' own example (awake) of the lines' layer comes out true.
-/
import Derived.Test.YtkecnhoidakckaaLF
import Derived.Test.YtkecnhoidakckaaLG
namespace Go.Proofs.Ytkecnhoidakckaa.Li
open Go Go.RowKit Kt Lw

theorem two_vs (w : World) (E : TypeId) (x y : List UInt8) : Vs (w.alloc (.cells #[.string ⟨x.toArray⟩, .string ⟨y.toArray⟩] E)) (fun _ => True) (some ⟨w.heap.size, 0, none⟩) 2 (texts [x, y]) :=
  ⟨by simp [texts], fun _ => ⟨w.heap.size, 0, rfl, trivial, fun j v hj => by
    rw [Nat.zero_add, (Row.fresh w _ _).cell]
    exact hj⟩⟩
theorem Vs.same {w w' : World} {P : Nat → Prop} {A : Option Addr} {c : Nat} {vs : List Value} (h : Vs w P A c vs) (hb : Below w.heap.size w w') : Vs w' P A c vs := Lw.Vs.below h hb
theorem lns_ab : lns [97, 10, 98] = [[97, 10], [98]] := by decide
theorem right_ab : right [[97, 10], [98]] = true := by decide +kernel

set_option maxHeartbeats 2000000 in
set_option maxRecDepth 100000 in
theorem awake_any (w : World) : Calls Try.prog 8 #[] w fun y w' => y = .returned (.bool true) ∧ Below w.heap.size w w' := by
  go_enter Try.func8, Try.ntmps8
  go_wp2_with fail
  refine (split_any [97, 10, 98] w (by simp)).mono ?_
  rintro y w1 ⟨v, rfl, hv, hb1⟩
  rw [lns_ab] at hv
  obtain ⟨A, c, rfl, hs⟩ := OwT.vs hv
  have Hs1 := hide hs
  have Hb1 := hide hb1
  clear hv hs hb1
  simp only [List.length_cons, List.length_nil, Nat.zero_add, Nat.reduceAdd]
  go_wp2_with fail
  have hb2 := (Below.refl w1.heap.size w1).alloc (Nat.le_refl _) (.cells #[.string ⟨#[97, 10]⟩, .string ⟨#[98]⟩] 9)
  refine (texts_any [[97, 10], [98]] [[97, 10], [98]] A _ c 2 _ _ _ (Vs.same Hs1.out hb2) (two_vs w1 9 [97, 10] [98]) (by simp)).mono ?_
  rintro y w2 ⟨rfl, hb3⟩
  have hb12 := hb2.trans (hb3.mono (by simp))
  have Hs2 := hide (Vs.same Hs1.out hb12)
  have Hb2 := hide (Hb1.out.trans (hb12.mono Hb1.out.size))
  clear hb2 hb3 hb12
  simp only [decide_true]
  go_wp2_with fail
  refine (join_any [[97, 10], [98]] A c _ w2 Hs2.out (by simp) (by simp)).mono ?_
  rintro y w3 ⟨rfl, hb3⟩
  have Hs3 := hide (Vs.same Hs2.out hb3)
  have Hb3 := hide (Hb2.out.trans (hb3.mono Hb2.out.size))
  clear hb3
  have he := eq_txt [97, 10, 98] [97, 10, 98]
  simp only [decide_true] at he
  rw [show [[97, 10], [98]].flatten = ([97, 10, 98] : List UInt8) from rfl]
  go_wp2_with fail
  refine (right_any [[97, 10], [98]] A c _ w3 Hs3.out (by simp) (by simp)).mono ?_
  rintro y w4 ⟨rfl, hb4⟩
  have Hb4 := hide (Hb3.out.trans (hb4.mono Hb3.out.size))
  clear hb4
  rw [right_ab]
  go_wp2_with fail
  refine (closed_any [97, 10, 98] w4 (by simp)).mono ?_
  rintro y w5 ⟨rfl, rfl⟩
  rw [show closed [97, 10, 98] = false from rfl]
  go_wp2_with fail
  refine (binary_any [97] w5).mono ?_
  rintro y w6 ⟨rfl, rfl⟩
  rw [show binary [97] = false from rfl]
  go_wp2_with fail
  refine (count_any [97, 10, 98] w6 (by simp)).mono ?_
  rintro y w7 ⟨rfl, hb7⟩
  have Hb7 := hide (Hb4.out.trans (hb7.mono Hb4.out.size))
  clear hb7
  rw [lns_ab]
  go_wp2
  go_ret
  exact ⟨rfl, Hb7.out⟩
end Go.Proofs.Ytkecnhoidakckaa.Li
