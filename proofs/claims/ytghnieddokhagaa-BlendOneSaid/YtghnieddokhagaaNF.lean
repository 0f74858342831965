/-
  The law of two trees, together: a right tree of a size that is looked at.
-/
import Derived.BigQuiet
import Derived.Test.YtghnieddokhagaaQTH
import Derived.Test.YtghnieddokhagaaQTE
namespace Go.Proofs.Ytghnieddokhagaa.Tr
open Go Go.RowKit Kt Lw Li Lx Df

def fine (t : List Fl) : Bool := fewB t && right t
theorem fine_is {t : List Fl} (h : fine t = true) : go none t = true ∧ t.length ≤ 12 ∧ (∀ f ∈ t, f.path.length + f.text.length ≤ 600) := by
  unfold fine at h
  rw [Bool.and_eq_true] at h
  refine ⟨?_, few_is h.1⟩
  have h2 := h.2
  unfold right at h2
  simp only [Bool.and_eq_true] at h2
  exact h2.1
set_option maxRecDepth 100000 in
set_option maxHeartbeats 2000000 in
theorem good_any (t : List Fl) (A : Option Addr) (c : Nat) (w : World) (hs : Fls w A c t) :
    Calls Try.prog 8 #[.slice A t.length c] w fun y w' => y = .returned (.bool (fine t)) ∧ Below w.heap.size w w' := by
  have HF := hide (few_any t A c w hs)
  have HR := hide (fun (hf : fewB t = true) (wz : World) (hz : Below w.heap.size w wz) => rright_any t A c wz (hs.keep hz) (by have := (few_is hf).1; omega) (fun f hf2 => by have := (few_is hf).2 f hf2; omega))
  have Hfi := hide (show fine t = (fewB t && right t) from rfl)
  obtain ⟨N, hN⟩ : ∃ N, N = t.length := ⟨_, rfl⟩
  rw [← hN] at HF HR ⊢
  clear hN hs
  generalize fine t = R at *
  generalize right t = r at *
  go_enter Try.func8, Try.ntmps8
  go_wp2_with fail
  refine HF.out.mono ?_
  rintro y w1 ⟨rfl, hb1⟩
  have Hb1 := hide hb1
  clear hb1 HF
  cases hf : fewB t with
  | false =>
    rw [hf, Bool.false_and] at Hfi
    clear HR
    go_wp2
    go_ret
    exact ⟨by rw [Hfi.out]; rfl, Hb1.out⟩
  | true =>
    rw [hf, Bool.true_and] at Hfi
    go_wp2_with fail
    refine (HR.out hf w1 Hb1.out).mono ?_
    rintro y w2 ⟨rfl, hb2⟩
    have Hb2 := hide (Hb1.out.trans (hb2.mono Hb1.out.size))
    clear HR hb2 hf
    go_wp2
    go_ret
    exact ⟨by rw [Hfi.out]; rfl, Hb2.out⟩
end Go.Proofs.Ytghnieddokhagaa.Tr
