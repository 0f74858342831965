/-
  The statement DiffTells, walked.
-/
import Derived.Test.YtlfjdecjgcgmjaaFH
import Derived.Test.YtlfjdecjgcgmjaaEOs
namespace Go.Proofs.Ytlfjdecjgcgmjaa.Df
open Go Go.RowKit Kt Lw Li

theorem ins_size : ∀ (L : List Ed) (e : Ed), e ∈ L → (e.ins.length : Int) ≤ size L
  | [], _, h => by cases h
  | x :: l, e, h => by
    have h0 := size_pos l
    rw [size]
    rcases List.mem_cons.1 h with rfl | h
    · omega
    · have := ins_size l e h
      omega
set_option maxHeartbeats 1000000 in
set_option maxRecDepth 100000 in
theorem tells_any (a b : Ls) (A A' : Option Addr) (c c' : Nat) (P P' : Nat → Prop) (w : World) (hs : Vs w P A c (texts a)) (hs' : Vs w P' A' c' (texts b)) (_hla : a.length ≤ 9223372036854775807) (_hlb : b.length ≤ 9223372036854775807) :
    Calls Try.prog 3 #[.slice A a.length c, .slice A' b.length c'] w fun y w' => y = .returned (.bool true) ∧ Below w.heap.size w w' := by
  have Ha := hide hs.bound
  have Hx := hide hs'.bound
  clear hs hs'
  by_cases ha : a.length ≤ 24
  · have da : decide (24 < (a.length : Int)) = false := by simp; omega
    by_cases hb : b.length ≤ 24
    · have db : decide (24 < (b.length : Int)) = false := by simp; omega
      have Hsm := hide (D_small a b (by omega) (by omega))
      have HD := hide (fun w1 (h1 : Vs w1 (fun b => b < w1.heap.size) A c (texts a)) (h2 : Vs w1 (fun b => b < w1.heap.size) A' c' (texts b)) => diff_any a b A A' c c' _ _ w1 h1 h2 (by omega) (by omega))
      have HR := hide (fun w1 (h1 : Vs w1 (fun b => b < w1.heap.size) A c (texts a)) (h2 : Vs w1 (fun b => b < w1.heap.size) A' c' (texts b)) => refDiff_any a b A A' c c' _ _ w1 h1 h2 (by omega) (by omega))
      have HI := hide (ins_size (D a b))
      generalize D a b = L at *
      obtain ⟨m, hm⟩ : ∃ m, m = a.length := ⟨_, rfl⟩
      obtain ⟨n, hn⟩ : ∃ n, n = b.length := ⟨_, rfl⟩
      rw [← hm] at ha da HD HR ⊢
      rw [← hn] at hb db HD HR ⊢
      clear hm hn
      go_enter Try.func3, Try.ntmps3
      go_wp2_with fail
      refine (awake_any w).mono ?_
      rintro y w1 ⟨rfl, hb1⟩
      have Ha1 := hide (vs_keep Ha.out hb1)
      have Hx1 := hide (vs_keep Hx.out hb1)
      have Hb1 := hide hb1
      clear hb1
      go_wp2_with fail
      refine (HD.out w1 Ha1.out Hx1.out).mono ?_
      rintro y w2 ⟨v, rfl, hv, hb2⟩
      obtain ⟨Al, cl, rfl, he⟩ := OwE.es hv
      have Ha2 := hide (vs_keep Ha1.out hb2)
      have Hx2 := hide (vs_keep Hx1.out hb2)
      have He2 := hide he
      have Hb2 := hide (Hb1.out.trans (hb2.mono Hb1.out.size))
      clear hb2 hv he
      go_wp2_with fail
      refine (HR.out w2 Ha2.out Hx2.out).mono ?_
      rintro y w3 ⟨v, rfl, hv, hb3⟩
      obtain ⟨Am, cm, rfl, he⟩ := OwE.es hv
      have He3 := hide (He2.out.keep hb3)
      have Hm3 := hide he
      have Hb3 := hide (Hb2.out.trans (hb3.mono Hb2.out.size))
      clear hb3 hv he
      go_wp2_with fail
      refine (same_any L Al Am cl cm w3 He3.out Hm3.out (by have := Hsm.out; omega) (fun e he => by have := HI.out e he; have := Hsm.out; omega)).mono ?_
      rintro y w4 ⟨rfl, hb4⟩
      have Hb4 := hide (Hb3.out.trans (hb4.mono Hb3.out.size))
      clear hb4
      go_wp2
      go_ret
      exact ⟨rfl, Hb4.out⟩
    · have db : decide (24 < (b.length : Int)) = true := by simp; omega
      go_enter Try.func3, Try.ntmps3
      go_wp2_with fail
      refine (awake_any w).mono ?_
      rintro y w1 ⟨rfl, hb1⟩
      go_wp2
      go_ret
      exact ⟨rfl, hb1⟩
  · have da : decide (24 < (a.length : Int)) = true := by simp; omega
    go_enter Try.func3, Try.ntmps3
    go_wp2_with fail
    refine (awake_any w).mono ?_
    rintro y w1 ⟨rfl, hb1⟩
    go_wp2
    go_ret
    exact ⟨rfl, hb1⟩
end Go.Proofs.Ytlfjdecjgcgmjaa.Df
