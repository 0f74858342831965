/-
  The statement MergeOne, walked.
-/
import Derived.Test.YtofccahgmkifjaaQ15
import Derived.Test.YtofccahgmkifjaaQ4
namespace Go.Proofs.Ytofccahgmkifjaa.Al
open Go Go.RowKit Kt Kg Lw Li Df

theorem mgT_a (o a : List UInt8) : mgT o a o = (a, 0) := mgT_same (.inr rfl)
theorem mgT_b (o a : List UInt8) : mgT o o a = (a, 0) := by
  by_cases h : o = a
  · subst h; exact mgT_same (.inl rfl)
  · exact mgT_one (fun hh => hh.elim h fun e => h e.symm) rfl
theorem mgT_c (o a : List UInt8) : mgT o a a = (a, 0) := mgT_same (.inl rfl)
/-- what Lines tells where it tells these lines -/
abbrev LinQ (w : World) (y : Ending) (w' : World) (l : Ls) (k : Nat) : Prop := ∃ A c, y = .returned (.tuple #[.slice A k c, .int .i64 0]) ∧ Vs w' (fun _ => True) A c (texts l) ∧ Below w.heap.size w w'
theorem lin_of {w : World} {Ao Aa Ab : Option Addr} {co ca cb no na nb : Nat} {o a b l : Ls} (ht : Trio w Ao Aa Ab co ca cb o a b) (fo : Fit o) (fa : Fit a) (fb : Fit b) (h : mgL o a b = l ∧ mgN o a b = 0) {k : Nat} (hk : k = l.length) (h1 : no = o.length) (h2 : na = a.length) (h3 : nb = b.length) :
    Calls Try.prog 9 #[.slice Ao no co, .slice Aa na ca, .slice Ab nb cb] w fun y w' => LinQ w y w' l k := by
  subst hk h1 h2 h3
  refine (mlines_any ht fo fa fb).mono ?_
  rintro y w' ⟨v, rfl, ho, hb⟩
  rw [h.1] at ho
  obtain ⟨A, c, rfl, hv⟩ := ho.vs
  refine ⟨A, c, by rw [h.2]; rfl, vs_true hv, hb⟩
set_option maxRecDepth 100000 in
set_option maxHeartbeats 4000000 in
theorem lawOne_any (o a : List UInt8) (l m : Ls) (A A' : Option Addr) (c c' : Nat) (P P' : Nat → Prop) (w : World) (hs : Vs w P A c (texts l)) (hs' : Vs w P' A' c' (texts m)) (fl : Fit l) (fm : Fit m) :
    Calls Try.prog 5 #[.string ⟨o.toArray⟩, .string ⟨a.toArray⟩, .slice A l.length c, .slice A' m.length c'] w fun y w' => y = .returned (.bool true) ∧ Below w.heap.size w w' := by
  obtain ⟨nl, hnl⟩ : ∃ z, z = l.length := ⟨_, rfl⟩
  obtain ⟨nm, hnm⟩ : ∃ z, z = m.length := ⟨_, rfl⟩
  rw [← hnl, ← hnm]
  by_cases h0 : 60 < o.length
  · have d0 : decide (60 < (o.length : Int)) = true := decide_eq_true (by omega)
    clear h0  hs hs' fl fm hnl hnm
    go_enter Try.func5, Try.ntmps5
    go_wp2_with fail
    refine (mawake_any w).mono ?_
    rintro y w1 ⟨rfl, hb1⟩
    have Hb1 := hide hb1
    clear hb1
    go_wp2
    go_ret
    exact ⟨rfl, Hb1.out⟩
  have d0 : decide (60 < (o.length : Int)) = false := decide_eq_false (by omega)
  by_cases h1 : 60 < a.length
  · have d1 : decide (60 < (a.length : Int)) = true := decide_eq_true (by omega)
    clear h1 h0 hs hs' fl fm hnl hnm
    go_enter Try.func5, Try.ntmps5
    go_wp2_with fail
    refine (mawake_any w).mono ?_
    rintro y w1 ⟨rfl, hb1⟩
    have Hb1 := hide hb1
    clear hb1
    go_wp2
    go_ret
    exact ⟨rfl, Hb1.out⟩
  have d1 : decide (60 < (a.length : Int)) = false := decide_eq_false (by omega)
  by_cases h2 : 30 < nl
  · have d2 : decide (30 < (nl : Int)) = true := decide_eq_true (by omega)
    clear h2 h0 h1 hs hs' fl fm hnl hnm
    go_enter Try.func5, Try.ntmps5
    go_wp2_with fail
    refine (mawake_any w).mono ?_
    rintro y w1 ⟨rfl, hb1⟩
    have Hb1 := hide hb1
    clear hb1
    go_wp2
    go_ret
    exact ⟨rfl, Hb1.out⟩
  have d2 : decide (30 < (nl : Int)) = false := decide_eq_false (by omega)
  by_cases h3 : 30 < nm
  · have d3 : decide (30 < (nm : Int)) = true := decide_eq_true (by omega)
    clear h3 h0 h1 h2 hs hs' fl fm hnl hnm
    go_enter Try.func5, Try.ntmps5
    go_wp2_with fail
    refine (mawake_any w).mono ?_
    rintro y w1 ⟨rfl, hb1⟩
    have Hb1 := hide hb1
    clear hb1
    go_wp2
    go_ret
    exact ⟨rfl, Hb1.out⟩
  have d3 : decide (30 < (nm : Int)) = false := decide_eq_false (by omega)
  have T1 := hide (fun w => mtext_any o a o w (by omega) (by omega) (by omega))
  have T2 := hide (fun w => mtext_any o o a w (by omega) (by omega) (by omega))
  have T3 := hide (fun w => mtext_any o a a w (by omega) (by omega) (by omega))
  unfold TextQ at T1 T2 T3
  rw [mgT_a] at T1
  rw [mgT_b] at T2
  rw [mgT_c] at T3
  obtain ⟨g1, g2, g3⟩ := mg_one l m
  have hb0 : ∀ w1, Below w.heap.size w w1 → Vs w1 (fun k => k < w1.heap.size) A c (texts l) ∧ Vs w1 (fun k => k < w1.heap.size) A' c' (texts m) := fun w1 hb => ⟨(Lw.Vs.below hs hb).bound, (Lw.Vs.below hs' hb).bound⟩
  have L1 := hide (fun w1 (hb : Below w.heap.size w w1) => lin_of (no := nl) (na := nm) (nb := nl) (w := w1) ⟨(hb0 w1 hb).1, (hb0 w1 hb).2, (hb0 w1 hb).1, by omega, by omega, by omega⟩ fl fm fl g1 hnm hnl hnm hnl)
  have L2 := hide (fun w1 (hb : Below w.heap.size w w1) => lin_of (no := nl) (na := nl) (nb := nm) (w := w1) ⟨(hb0 w1 hb).1, (hb0 w1 hb).1, (hb0 w1 hb).2, by omega, by omega, by omega⟩ fl fl fm g2 hnm hnl hnl hnm)
  have L3 := hide (fun w1 (hb : Below w.heap.size w w1) => lin_of (no := nl) (na := nm) (nb := nm) (w := w1) ⟨(hb0 w1 hb).1, (hb0 w1 hb).2, (hb0 w1 hb).2, by omega, by omega, by omega⟩ fl fm fm g3 hnm hnl hnm hnm)
  have HX := hide (show ∀ (w1 : World) (A1 : Option Addr) (c1 : Nat), Below w.heap.size w w1 → Vs w1 (fun _ => True) A1 c1 (texts m) → Calls Try.prog 11 #[.slice A1 nm c1, .slice A' nm c'] w1 fun y w' => y = .returned (.bool true) ∧ Below w1.heap.size w1 w' from fun w1 A1 c1 hb hv => by
    have h := texts_any m m A1 A' c1 c' _ _ w1 hv (hb0 w1 hb).2 (by omega)
    rw [← hnm] at h
    refine h.mono ?_
    rintro y w' ⟨rfl, hb'⟩
    exact ⟨by simp, hb'⟩)
  clear h0 h1 h2 h3 hs hs' fl fm hnl hnm g1 g2 g3 hb0
  go_enter Try.func5, Try.ntmps5
  go_wp2_with fail
  refine (mawake_any w).mono ?_
  rintro y w1 ⟨rfl, hb1⟩
  have Hb1 := hide hb1
  clear hb1
  go_wp2_with fail
  refine (T1.out w1).mono ?_
  rintro y w2 ⟨rfl, hb2⟩
  have Hb2 := hide (Hb1.out.trans (hb2.mono Hb1.out.size))
  clear hb2 T1
  go_wp2_with fail
  refine (T2.out w2).mono ?_
  rintro y w3 ⟨rfl, hb3⟩
  have Hb3 := hide (Hb2.out.trans (hb3.mono Hb2.out.size))
  clear hb3 T2
  go_wp2_with fail
  refine (T3.out w3).mono ?_
  rintro y w4 ⟨rfl, hb4⟩
  have Hb4 := hide (Hb3.out.trans (hb4.mono Hb3.out.size))
  clear hb4 T3
  go_wp2_with fail
  refine (L1.out w4 Hb4.out).mono ?_
  rintro y w5 ⟨A5, c5, rfl, hv5, hb5⟩
  have Hv5_5 := hide hv5
  have Hb5 := hide (Hb4.out.trans (hb5.mono Hb4.out.size))
  clear hb5 hv5 L1
  go_wp2_with fail
  refine (L2.out w5 Hb5.out).mono ?_
  rintro y w6 ⟨A6, c6, rfl, hv6, hb6⟩
  have Hv5_6 := hide (Lw.Vs.below Hv5_5.out hb6)
  have Hv6_6 := hide hv6
  have Hb6 := hide (Hb5.out.trans (hb6.mono Hb5.out.size))
  clear hb6 hv6 L2
  go_wp2_with fail
  refine (L3.out w6 Hb6.out).mono ?_
  rintro y w7 ⟨A7, c7, rfl, hv7, hb7⟩
  have Hv5_7 := hide (Lw.Vs.below Hv5_6.out hb7)
  have Hv6_7 := hide (Lw.Vs.below Hv6_6.out hb7)
  have Hv7_7 := hide hv7
  have Hb7 := hide (Hb6.out.trans (hb7.mono Hb6.out.size))
  clear hb7 hv7 L3
  go_wp2_with fail
  refine (HX.out w7 A5 c5 Hb7.out Hv5_7.out).mono ?_
  rintro y w8 ⟨rfl, hb8⟩
  have Hv6_8 := hide (Lw.Vs.below Hv6_7.out hb8)
  have Hv7_8 := hide (Lw.Vs.below Hv7_7.out hb8)
  have Hb8 := hide (Hb7.out.trans (hb8.mono Hb7.out.size))
  clear hb8
  go_wp2_with fail
  refine (HX.out w8 A6 c6 Hb8.out Hv6_8.out).mono ?_
  rintro y w9 ⟨rfl, hb9⟩
  have Hv7_9 := hide (Lw.Vs.below Hv7_8.out hb9)
  have Hb9 := hide (Hb8.out.trans (hb9.mono Hb8.out.size))
  clear hb9
  go_wp2_with fail
  refine (HX.out w9 A7 c7 Hb9.out Hv7_9.out).mono ?_
  rintro y w10 ⟨rfl, hb10⟩
  have Hb10 := hide (Hb9.out.trans (hb10.mono Hb9.out.size))
  clear hb10
  go_wp2
  go_ret
  exact ⟨by simp, Hb10.out⟩
end Go.Proofs.Ytofccahgmkifjaa.Al
