/-
  The statement MergeLines, walked.
-/
import Derived.BigQuiet
import Derived.Test.YtofccahgmkifjaaMQ
import Derived.Test.YtofccahgmkifjaaQ4
namespace Go.Proofs.Ytofccahgmkifjaa.Al
open Go Go.RowKit Kt Kg Lw Li Df

set_option maxRecDepth 100000 in
set_option maxHeartbeats 4000000 in
theorem lawLines_any (o a b : Ls) (Ao Aa Ab : Option Addr) (co ca cb : Nat) (P P' P2 : Nat → Prop) (w : World) (hso : Vs w P Ao co (texts o)) (hsa : Vs w P' Aa ca (texts a)) (hsb : Vs w P2 Ab cb (texts b)) (fo : Fit o) (fa : Fit a) (fb : Fit b) :
    Calls Try.prog 3 #[.slice Ao o.length co, .slice Aa a.length ca, .slice Ab b.length cb] w fun y w' => y = .returned (.bool true) ∧ Below w.heap.size w w' := by
  obtain ⟨no, hno⟩ : ∃ z, z = o.length := ⟨_, rfl⟩
  obtain ⟨na, hna⟩ : ∃ z, z = a.length := ⟨_, rfl⟩
  obtain ⟨nb, hnb⟩ : ∃ z, z = b.length := ⟨_, rfl⟩
  rw [← hno, ← hna, ← hnb]
  by_cases h0 : 16 < no
  · have d0 : decide (16 < (no : Int)) = true := decide_eq_true (by omega)
    clear h0  hso hsa hsb fo fa fb hno hna hnb
    go_enter Try.func3, Try.ntmps3
    go_wp2_with fail
    refine (mawake_any w).mono ?_
    rintro y w1 ⟨rfl, hb1⟩
    have Hb1 := hide hb1
    clear hb1
    go_wp2
    go_ret
    exact ⟨rfl, Hb1.out⟩
  have d0 : decide (16 < (no : Int)) = false := decide_eq_false (by omega)
  by_cases h1 : 16 < na
  · have d1 : decide (16 < (na : Int)) = true := decide_eq_true (by omega)
    clear h1 h0 hso hsa hsb fo fa fb hno hna hnb
    go_enter Try.func3, Try.ntmps3
    go_wp2_with fail
    refine (mawake_any w).mono ?_
    rintro y w1 ⟨rfl, hb1⟩
    have Hb1 := hide hb1
    clear hb1
    go_wp2
    go_ret
    exact ⟨rfl, Hb1.out⟩
  have d1 : decide (16 < (na : Int)) = false := decide_eq_false (by omega)
  by_cases h2 : 16 < nb
  · have d2 : decide (16 < (nb : Int)) = true := decide_eq_true (by omega)
    clear h2 h0 h1 hso hsa hsb fo fa fb hno hna hnb
    go_enter Try.func3, Try.ntmps3
    go_wp2_with fail
    refine (mawake_any w).mono ?_
    rintro y w1 ⟨rfl, hb1⟩
    have Hb1 := hide hb1
    clear hb1
    go_wp2
    go_ret
    exact ⟨rfl, Hb1.out⟩
  have d2 : decide (16 < (nb : Int)) = false := decide_eq_false (by omega)
  have ht : Trio w Ao Aa Ab co ca cb o a b := ⟨hso.bound, hsa.bound, hsb.bound, by omega, by omega, by omega⟩
  have HM := hide (fun w1 (hb : Below w.heap.size w w1) => mlines_any (ht.keep hb) fo fa fb)
  have HR := hide (fun w1 (hb : Below w.heap.size w w1) => rlines_any (ht.keep hb) ⟨by omega, by omega, by omega⟩ fo fa fb)
  rw [← hno, ← hna, ← hnb] at HM HR
  have hX : (mgL o a b).length ≤ 1000000 := mgL_len (by omega) (by omega) (by omega)
  generalize mgL o a b = X at *
  generalize mgN o a b = nn at *
  obtain ⟨nx, hnx⟩ : ∃ z, z = X.length := ⟨_, rfl⟩
  have Hnx := hide hnx
  have hnx6 := hide (show X.length ≤ 1000000 from hX)
  clear h0 h1 h2 hso hsa hsb fo fa fb hno hna hnb ht hX hnx
  go_enter Try.func3, Try.ntmps3
  go_wp2_with fail
  refine (mawake_any w).mono ?_
  rintro y w1 ⟨rfl, hb1⟩
  have Hb1 := hide hb1
  clear hb1
  go_wp2_with fail
  refine (HM.out w1 Hb1.out).mono ?_
  rintro y w2 ⟨vx, rfl, hox, hb2⟩
  obtain ⟨Ax, cx, rfl, hvx⟩ := hox.vs
  have Hvx := hide hvx
  have Hb2 := hide (Hb1.out.trans (hb2.mono Hb1.out.size))
  clear hb2 hox hvx
  rw [← Hnx.out]
  go_wp2_with fail
  refine (HR.out w2 Hb2.out).mono ?_
  rintro y w3 ⟨vy, rfl, hoy, hb3⟩
  obtain ⟨Ay, cy, rfl, hvy⟩ := hoy.vs
  have hT := texts_any X X Ax Ay cx cy _ _ w3 (Lw.Vs.below Hvx.out hb3) hvy (by have := hnx6.out; omega)
  rw [← Hnx.out] at hT ⊢
  have HT := hide hT
  have Hb3 := hide (Hb2.out.trans (hb3.mono Hb2.out.size))
  clear hb3 hoy hvy hT HM HR
  go_wp2_with fail
  refine HT.out.mono ?_
  rintro y w4 ⟨rfl, hb4⟩
  have Hb4 := hide (Hb3.out.trans (hb4.mono Hb3.out.size))
  clear hb4 HT
  go_wp2
  go_ret
  exact ⟨by simp, Hb4.out⟩
end Go.Proofs.Ytofccahgmkifjaa.Al
