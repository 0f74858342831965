/-
  The statement ApplyTells, walked.
-/
import Derived.Test.YtfmmececocilhaaBO
import Derived.Test.YtfmmececocilhaaBU
import Derived.Test.YtfmmececocilhaaBV
namespace Go.Proofs.Ytfmmececocilhaa.Ap
open Go Go.RowKit Kt Lw Li Df Hu

theorem tells_long (n k : Nat) (A A2 : Option Addr) (c c2 : Nat) (w : World) (F : Bool)
    (hF : ∀ w1, Below w.heap.size w w1 → Calls Try.prog 11 #[.slice A2 k c2] w1 fun y w' => y = .returned (.bool F) ∧ Below w1.heap.size w1 w') (h : F = false ∨ 24 < n) :
    Calls Try.prog 3 #[.slice A n c, .slice A2 k c2] w fun y w' => y = .returned (.bool true) ∧ Below w.heap.size w w' := by
  have Haw := hide (awake_any w)
  have HF := hide hF
  clear hF
  cases F with
  | false =>
    clear h
    go_enter Try.func3, Try.ntmps3
    go_wp2_with fail
    refine Haw.out.mono ?_
    rintro y w1 ⟨rfl, hb1⟩
    go_wp2_with fail
    refine (HF.out w1 hb1).mono ?_
    rintro y w2 ⟨rfl, hb2⟩
    have hb3 := hb1.trans (hb2.mono hb1.size)
    clear hb1 hb2
    go_wp2
    go_ret
    exact ⟨rfl, hb3⟩
  | true =>
    have d1 : decide ((24 : Int) < (n : Int)) = true := by
      rcases h with h | h
      · cases h
      · exact decide_eq_true (by omega)
    clear h
    go_enter Try.func3, Try.ntmps3
    go_wp2_with fail
    refine Haw.out.mono ?_
    rintro y w1 ⟨rfl, hb1⟩
    go_wp2_with fail
    refine (HF.out w1 hb1).mono ?_
    rintro y w2 ⟨rfl, hb2⟩
    have hb3 := hb1.trans (hb2.mono hb1.size)
    clear hb1 hb2
    go_wp2
    go_ret
    exact ⟨rfl, hb3⟩
set_option maxRecDepth 100000 in
set_option maxHeartbeats 2000000 in
theorem lawTells_any (a : Ls) (L : List Hk) (A A2 : Option Addr) (c c2 : Nat) (P : Nat → Prop) (w : World) (hs : Vs w P A c (texts a)) (hk : Hks w A2 c2 L) (hl : L.length ≤ 9223372036854775807) (hx : ∀ h ∈ L, ∀ x ∈ h.lines, x.length ≤ 9223372036854775807) :
    Calls Try.prog 3 #[.slice A a.length c, .slice A2 L.length c2] w fun y w' => y = .returned (.bool true) ∧ Below w.heap.size w w' := by
  have hF := fun w1 (hb1 : Below w.heap.size w w1) => Hu.few_any L A2 c2 w1 (hk.keep hb1) hl
  by_cases hlen : fewH L = false ∨ 24 < a.length
  · exact tells_long a.length L.length A A2 c c2 w _ hF hlen
  have hf : fewH L = true := by
    cases hq : fewH L with
    | true => rfl
    | false => exact absurd (.inl hq) hlen
  have ha : a.length ≤ 24 := by omega
  obtain ⟨f1, f2⟩ := few_all hf
  rw [hf] at hF
  have HF := hide hF
  have Haw := hide (awake_any w)
  have hsm : ∀ h ∈ L, Sm h := fun h hh => (f1 h hh).1
  have HAp := hide (fun (w1 : World) (hb1 : Below w.heap.size w w1) => apply_any a L A A2 c c2 _ w1 (Lw.Vs.below hs.bound hb1) (hk.keep hb1) (by omega) hsm (by omega))
  have HAr := hide (fun (w1 : World) (hb1 : Below w.heap.size w w1) => refApply7_any a L A A2 c c2 _ w1 (Lw.Vs.below hs.bound hb1) (hk.keep hb1) (by omega) hsm (by omega))
  have HTu := hide (fun (w1 : World) (hb1 : Below w.heap.size w w1) => aturn_any L A2 c2 w1 (hk.keep hb1) (by omega) hsm hx)
  have HTr := hide (fun (w1 : World) (hb1 : Below w.heap.size w w1) => refTurn7_any L A2 c2 w1 (hk.keep hb1) (by omega) hsm hx)
  have HR1 := hide (fun (w1 : World) (hb1 : Below w.heap.size w w1) => aright_any L A2 c2 w1 (hk.keep hb1) (by omega) hsm)
  have HR2 := hide (fun (w1 : World) (hb1 : Below w.heap.size w w1) => refRight7_any L A2 c2 w1 (hk.keep hb1) (by omega) hsm)
  have hTl : (turnL L).length ≤ 12 ∧ ∀ h ∈ turnL L, h.lines.length ≤ 100000 := by
    unfold turnL
    split
    · refine ⟨by rw [List.length_map]; omega, fun h hh => ?_⟩
      obtain ⟨g, hg, rfl⟩ := List.mem_map.1 hh
      have h1 := turnA_len g.lines [] []
      have h2 := (f1 g hg).2.1
      have h3 : (hturn g).lines = turnA [] [] g.lines := rfl
      rw [h3, h1]
      simp only [List.length_nil]
      omega
    · exact ⟨by simp, fun h hh => by cases hh⟩
  obtain ⟨T, hT⟩ : ∃ T, T = turnL L := ⟨_, rfl⟩
  rw [← hT] at HTu HTr hTl
  have HSm := hide (fun (w1 : World) (Al Am : Option Addr) (cl cm : Nat) (hk : Hks w1 Al cl T) (hk2 : Hks w1 Am cm T) => hsame_any T Al Am cl cm w1 hk hk2 (by omega) hTl.2)
  obtain ⟨X, hX⟩ : ∃ X, X = (appl a L).1 := ⟨_, rfl⟩
  obtain ⟨e, he⟩ : ∃ e, e = (appl a L).2 := ⟨_, rfl⟩
  rw [← hX, ← he] at HAp HAr
  have hXl : X.length ≤ 400 := by
    rw [hX]
    rcases appl_cases a L with ⟨x, h⟩ | ⟨e, h, _⟩
    · rw [h]
      obtain ⟨_, h2⟩ := appl_ok h
      have := does_len L 0 a x h2 fun h hh => (f1 h hh).2.1
      simp only
      omega
    · rw [h]; simp
  have HX := hide (fun (w1 : World) (Al Am : Option Addr) (cl cm : Nat) (hv : Vs w1 (fun b => b < w1.heap.size) Al cl (texts X)) (hv2 : Vs w1 (fun b => b < w1.heap.size) Am cm (texts X)) => texts_any X X Al Am cl cm _ _ w1 hv hv2 (by omega))
  rw [decide_eq_true rfl] at HX
  obtain ⟨n, hn⟩ : ∃ n, n = a.length := ⟨_, rfl⟩
  obtain ⟨q, hq⟩ : ∃ q, q = L.length := ⟨_, rfl⟩
  rw [← hn] at HAp HAr ha ⊢
  rw [← hq] at HF HAp HAr HTu HTr HR1 HR2 ⊢
  have d1 : decide ((24 : Int) < (n : Int)) = false := decide_eq_false (by omega)
  generalize okL 0 0 L = R at *
  clear hs hk hl hx hF hlen hf f1 f2 hn hq hsm hT hX he hTl hXl
  go_enter Try.func3, Try.ntmps3
  go_wp2_with fail
  refine Haw.out.mono ?_
  rintro y w1 ⟨rfl, hb1⟩
  have Hb1 := hide hb1
  clear hb1 Haw
  go_wp2_with fail
  refine (HF.out w1 Hb1.out).mono ?_
  rintro y w2 ⟨rfl, hb2⟩
  have Hb2 := hide (Hb1.out.trans (hb2.mono Hb1.out.size))
  clear hb2 Hb1 HF
  go_wp2_with fail
  refine (HAp.out w2 Hb2.out).mono ?_
  rintro y w3 ⟨v3, rfl, hv3, hb3⟩
  obtain ⟨A3, c3, rfl, hx3⟩ := hv3.vs
  have Hb3 := hide (Hb2.out.trans (hb3.mono Hb2.out.size))
  have Hx3 := hide hx3.bound
  clear hv3 hb3 hx3 Hb2 HAp
  go_wp2_with fail
  refine (HAr.out w3 Hb3.out).mono ?_
  rintro y w4 ⟨v4, rfl, hv4, hb4⟩
  obtain ⟨A4, c4, rfl, hx4⟩ := hv4.vs
  have Hb4 := hide (Hb3.out.trans (hb4.mono Hb3.out.size))
  have HX4 := hide (HX.out w4 A3 A4 c3 c4 (vs_keep Hx3.out hb4) hx4.bound)
  clear hv4 hb4 hx4 Hb3 Hx3 HAr HX
  go_wp2_with fail
  refine HX4.out.mono ?_
  rintro y w5 ⟨rfl, hb5⟩
  have Hb5 := hide (Hb4.out.trans (hb5.mono Hb4.out.size))
  clear hb5 HX4 Hb4
  go_wp2_with fail
  refine (HR1.out w5 Hb5.out).mono ?_
  rintro y w6 ⟨rfl, hb6⟩
  have Hb6 := hide (Hb5.out.trans (hb6.mono Hb5.out.size))
  clear hb6 HR1 Hb5
  go_wp2_with fail
  refine (HR2.out w6 Hb6.out).mono ?_
  rintro y w7 ⟨rfl, hb7⟩
  have Hb7 := hide (Hb6.out.trans (hb7.mono Hb6.out.size))
  clear hb7 HR2 Hb6
  go_wp2_with fail
  refine (HTu.out w7 Hb7.out).mono ?_
  rintro y w8 ⟨v8, rfl, hv8, hb8⟩
  obtain ⟨A8, c8, rfl, hk8⟩ := hv8.hks
  have Hb8 := hide (Hb7.out.trans (hb8.mono Hb7.out.size))
  have Hk8 := hide hk8
  clear hv8 hb8 hk8 HTu Hb7
  go_wp2_with fail
  refine (HTr.out w8 Hb8.out).mono ?_
  rintro y w9 ⟨v9, rfl, hv9, hb9⟩
  obtain ⟨A9, c9, rfl, hk9⟩ := hv9.hks
  have Hb9 := hide (Hb8.out.trans (hb9.mono Hb8.out.size))
  have HS9 := hide (HSm.out w9 A8 A9 c8 c9 (Hk8.out.keep hb9) hk9)
  clear hv9 hb9 hk9 HTr Hk8 Hb8 HSm
  go_wp2_with fail
  refine HS9.out.mono ?_
  rintro y w10 ⟨rfl, hb10⟩
  have Hb10 := hide (Hb9.out.trans (hb10.mono Hb9.out.size))
  clear hb10 HS9 Hb9
  go_wp2
  go_ret
  exact ⟨rfl, Hb10.out⟩
end Go.Proofs.Ytfmmececocilhaa.Ap
