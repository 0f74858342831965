/-
  The statement UnifiedParses, walked.
-/
import Derived.Test.YtnehgogajghefaaDoorUX
import Derived.Test.YtnehgogajghefaaDoorUV
import Derived.Test.YtnehgogajghefaaDoorVP
namespace Go.Proofs.YtnehgogajghefaaDoor.Un
open Go Go.RowKit Kt Lw Li Df Hu

theorem parse_small {s : List UInt8} (h : s.length ≤ 500) : (parse s).1.length ≤ 1000000 ∧ ∀ h ∈ (parse s).1, h.lines.length ≤ 100000 := by
  by_cases he : (parse s).2.2 = 0
  · have e : parse s = ((parse s).1, (parse s).2.1, 0) := by rw [← he]
    obtain ⟨_, hta, hpa⟩ := parse_some e
    have hfl := prt_flat hta
    rw [hpa] at hfl
    obtain ⟨_, h1, h2⟩ := tell_fit hta 500 (by omega) (by rw [← hfl]; exact h)
    exact ⟨by omega, fun h hh => by have := h2 h hh; omega⟩
  · rw [(parse_no he).1]
    exact ⟨by simp, fun h hh => by cases hh⟩
set_option maxRecDepth 100000 in
set_option maxHeartbeats 4000000 in
theorem lawParses_any (s : List UInt8) (w : World) (hE : Env w) (hsl : s.length ≤ 9223372036854775807) :
    Calls Tryd.prog 3 #[.string ⟨s.toArray⟩] w fun y w' => y = .returned (.bool true) ∧ Below w.heap.size w w' := by
  have HE := hide (fun w' (hb : Below w.heap.size w w') => hE.keep hb)
  have Haw := hide (awake_any w hE)
  obtain ⟨n, hn⟩ : ∃ n, n = s.length := ⟨_, rfl⟩
  have hsz : (ByteArray.mk s.toArray).size = n := by rw [hn]; rfl
  rw [← hn] at hsl
  clear hE
  by_cases h5 : 500 < n
  · have d5 : decide (500 < (n : Int)) = true := decide_eq_true (by omega)
    clear hn HE h5
    go_enter Tryd.func3, Tryd.ntmps3
    go_wp2_with fail
    refine Haw.out.mono ?_
    rintro y w1 ⟨rfl, hb1⟩
    go_wp2
    go_ret
    exact ⟨rfl, hb1⟩
  have d5 : decide (500 < (n : Int)) = false := decide_eq_false (by omega)
  have HPs := hide (fun w1 (hb : Below w.heap.size w w1) => parse_any s w1 (HE.out w1 hb) (by omega))
  have HRf := hide (fun w1 => refParse_any s w1 (by omega))
  obtain ⟨hla, hli⟩ := parse_small (s := s) (by omega)
  generalize parse s = R at *
  obtain ⟨la, m, e⟩ := R
  simp only at HPs HRf hla hli
  obtain ⟨k, hk⟩ : ∃ k, k = la.length := ⟨_, rfl⟩
  have Hk := hide hk
  have Hli := hide hli
  rw [← hk] at hla
  have q1 : ((m : Int) == (m : Int)) = true := beq_self_eq_true _
  have q2 : ((e : Int) == (e : Int)) = true := beq_self_eq_true _
  obtain ⟨mi, hmi⟩ : ∃ mi : Int, mi = (m : Int) := ⟨_, rfl⟩
  obtain ⟨ei, hei⟩ : ∃ ei : Int, ei = (e : Int) := ⟨_, rfl⟩
  rw [← hmi] at HPs HRf q1
  rw [← hei] at HPs HRf q2
  clear h5 hn hk hli hmi hei
  go_enter Tryd.func3, Tryd.ntmps3
  go_wp2_with fail
  refine Haw.out.mono ?_
  rintro y w1 ⟨rfl, hb1⟩
  have Hb1 := hide hb1
  clear hb1 Haw
  go_wp2_with fail
  refine (HPs.out w1 Hb1.out).mono ?_
  rintro y w3 ⟨v3, rfl, hv3, hb3⟩
  obtain ⟨A3, c3, rfl, hk3⟩ := hv3.hks
  have Hk3 := hide hk3
  have Hb3 := hide (Hb1.out.trans (hb3.mono Hb1.out.size))
  rw [← Hk.out]
  clear hb3 HPs hv3 Hb1 hk3
  go_wp2_with fail
  refine (HRf.out w3).mono ?_
  rintro y w4 ⟨v4, rfl, hv4, hb4⟩
  obtain ⟨A4, c4, rfl, hk4⟩ := hv4.hks
  have HSm := hide (hsame_any la A3 A4 c3 c4 w4 (Hk3.out.keep hb4) hk4 (by rw [← Hk.out]; exact hla) Hli.out)
  have Hb4 := hide (Hb3.out.trans (hb4.mono Hb3.out.size))
  rw [← Hk.out] at HSm ⊢
  clear hb4 HRf hv4 Hb3 hk4 Hk3
  go_wp2_with fail
  refine HSm.out.mono ?_
  rintro y w7 ⟨rfl, hb7⟩
  have Hb7 := hide (Hb4.out.trans (hb7.mono Hb4.out.size))
  clear hb7
  go_wp2
  go_ret
  exact ⟨rfl, Hb7.out⟩
end Go.Proofs.YtnehgogajghefaaDoor.Un
