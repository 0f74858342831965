/-
  The laws of two trees, together: BlendTells, over whatever tells of the example and of the program's own answer.
-/
import Derived.BigQuiet
import Derived.Test.YtghnieddokhagaaNE
import Derived.Test.YtghnieddokhagaaNF
import Derived.Test.YtghnieddokhagaaQTH
import Derived.Test.YtghnieddokhagaaQTA
namespace Go.Proofs.Ytghnieddokhagaa.Tr
open Go Go.RowKit Kt Lw Li Lx Df Al

theorem same_own {w : World} {B B' : Nat} {v u : Value} {L M : List Fl} (h : OwF w B v L) (h' : OwF w B' u M) (hn : L.length ≤ 1000000) :
    Calls Try.prog 11 #[v, u] w fun y w' => y = .returned (.bool (decide (L = M))) ∧ Below w.heap.size w w' := by
  obtain ⟨A, c, rfl, hs⟩ := h.fls
  obtain ⟨A', c', rfl, hs'⟩ := h'.fls
  exact same_any L M A A' c c' w hs hs' hn
theorem texts_own {w : World} {B B' : Nat} {v u : Value} {l r : Ls} (h : OwT w B tS v l) (h' : OwT w B' tS u r) (hl : l.length ≤ 1000000) :
    Calls Try.prog 12 #[v, u] w fun y w' => y = .returned (.bool (decide (l = r))) ∧ Below w.heap.size w w' := by
  obtain ⟨A, c, rfl, hs⟩ := h.vs
  obtain ⟨A', c', rfl, hs'⟩ := h'.vs
  exact texts_any l r A A' c c' _ _ w hs hs' (by omega)
theorem trees_len (o a b : List Fl) : (trees mgT o a b).1.length ≤ 1000 ∧ (trees mgT o a b).2.length ≤ a.length + b.length := by
  refine ⟨List.length_take_le _ _, Nat.le_trans (List.length_filter_le _ _) (both_len a b)⟩
theorem fine_texts {t : List Fl} (h : fine t = true) : t.length ≤ 1000000 ∧ (∀ f ∈ t, f.text.length ≤ 600) ∧ (∀ f ∈ t, f.path.length ≤ 100000) := by
  obtain ⟨_, h1, h2⟩ := fine_is h
  exact ⟨by omega, fun f hf => by have := h2 f hf; omega, fun f hf => by have := h2 f hf; omega⟩
set_option maxRecDepth 100000 in
set_option maxHeartbeats 8000000 in
theorem lawTells_any (o a b : List Fl) (Ao Aa Ab : Option Addr) (co ca cb : Nat) (w : World) (ho : Fls w Ao co o) (ha : Fls w Aa ca a) (hb : Fls w Ab cb b)
    (hwk : ∀ wz, Below w.heap.size w wz → Calls Try.prog 7 #[] wz fun y w' => y = .returned (.bool true) ∧ Below wz.heap.size wz w')
    (hbl : ∀ wz, Below w.heap.size w wz → fine o = true → fine a = true → fine b = true → Calls Try.prog 9 #[.slice Ao o.length co, .slice Aa a.length ca, .slice Ab b.length cb] wz fun y w' =>
      ∃ v u, y = .returned (.tuple #[v, u]) ∧ OwF w' wz.heap.size v (trees mgT o a b).1 ∧ OwT w' wz.heap.size tS u (trees mgT o a b).2 ∧ Below wz.heap.size wz w') :
    Calls Try.prog 3 #[.slice Ao o.length co, .slice Aa a.length ca, .slice Ab b.length cb] w fun y w' => y = .returned (.bool true) ∧ Below w.heap.size w w' := by
  have HW := hide hwk
  have HBl := hide hbl
  have HX := hide (fun (wz : World) (h : Fls wz Ao co o) => good_any o Ao co wz h)
  have HY := hide (fun (wz : World) (h : Fls wz Aa ca a) => good_any a Aa ca wz h)
  have HZ := hide (fun (wz : World) (h : Fls wz Ab cb b) => good_any b Ab cb wz h)
  have HR := hide (fun (wz : World) (h1 : Fls wz Ao co o) (h2 : Fls wz Aa ca a) (h3 : Fls wz Ab cb b) (fo : fine o = true) (fa : fine a = true) (fb : fine b = true) => rtrees_any o a b Ao Aa Ab co ca cb wz h1 h2 h3 (fine_texts fo).1 (fine_texts fa).1 (fine_texts fb).1 (fine_texts fo).2.1 (fine_texts fa).2.1 (fine_texts fb).2.1 (fine_texts fa).2.2 (fine_texts fb).2.2)
  have HL := hide (trees_len o a b)
  have HN := hide (show fine a = true → fine b = true → a.length + b.length ≤ 1000000 from fun fa fb => by have := (fine_is fa).2.1; have := (fine_is fb).2.1; omega)
  obtain ⟨ko, hko⟩ : ∃ ko, ko = o.length := ⟨_, rfl⟩
  obtain ⟨ka, hka⟩ : ∃ ka, ka = a.length := ⟨_, rfl⟩
  obtain ⟨kb, hkb⟩ : ∃ kb, kb = b.length := ⟨_, rfl⟩
  rw [← hko] at HBl HX HR ⊢
  rw [← hka] at HBl HY HR HL HN ⊢
  rw [← hkb] at HBl HZ HR HL HN ⊢
  clear hko hka hkb hwk hbl
  generalize trees mgT o a b = T at *
  generalize fine o = fo at *
  generalize fine a = fa at *
  generalize fine b = fb at *
  have B_0 := hide (Below.refl w.heap.size w)
  have F_0 := hide (ho)
  have G_0 := hide (ha)
  have H_0 := hide (hb)
  clear ho ha hb
  go_enter Try.func3, Try.ntmps3
  go_wp2_with fail
  refine (HW.out w B_0.out).mono ?_
  rintro y w1 ⟨rfl, hb1⟩
  have B_1 := hide (B_0.out.trans (hb1.mono B_0.out.size))
  have F_1 := hide (F_0.out.keep hb1)
  have G_1 := hide (G_0.out.keep hb1)
  have H_1 := hide (H_0.out.keep hb1)
  clear hb1 B_0 F_0 G_0 H_0 HW
  go_wp2_with fail
  refine (HX.out w1 F_1.out).mono ?_
  rintro y w2 ⟨rfl, hb2⟩
  have B_2 := hide (B_1.out.trans (hb2.mono B_1.out.size))
  have F_2 := hide (F_1.out.keep hb2)
  have G_2 := hide (G_1.out.keep hb2)
  have H_2 := hide (H_1.out.keep hb2)
  clear hb2 B_1 F_1 G_1 H_1 HX
  go_wp2_with fail
  refine (HY.out w2 G_2.out).mono ?_
  rintro y w3 ⟨rfl, hb3⟩
  have B_3 := hide (B_2.out.trans (hb3.mono B_2.out.size))
  have F_3 := hide (F_2.out.keep hb3)
  have G_3 := hide (G_2.out.keep hb3)
  have H_3 := hide (H_2.out.keep hb3)
  clear hb3 B_2 F_2 G_2 H_2 HY
  go_wp2_with fail
  refine (HZ.out w3 H_3.out).mono ?_
  rintro y w4 ⟨rfl, hb4⟩
  have B_4 := hide (B_3.out.trans (hb4.mono B_3.out.size))
  have F_4 := hide (F_3.out.keep hb4)
  have G_4 := hide (G_3.out.keep hb4)
  have H_4 := hide (H_3.out.keep hb4)
  clear hb4 B_3 F_3 G_3 H_3 HZ
  cases fo with
  | false =>
    clear HBl HR HL HN
    go_wp2
    go_ret
    exact ⟨rfl, B_4.out⟩
  | true =>
    cases fa with
    | false =>
      clear HBl HR HL HN
      go_wp2
      go_ret
      exact ⟨rfl, B_4.out⟩
    | true =>
      cases fb with
      | false =>
        clear HBl HR HL HN
        go_wp2
        go_ret
        exact ⟨rfl, B_4.out⟩
      | true =>
        go_wp2_with fail
        refine (HBl.out w4 B_4.out (by simp) (by simp) (by simp)).mono ?_
        rintro y w5 ⟨v5, u5, rfl, hf5, ht5, hb5⟩
        have B_5 := hide (B_4.out.trans (hb5.mono B_4.out.size))
        have F_5 := hide (F_4.out.keep hb5)
        have G_5 := hide (G_4.out.keep hb5)
        have H_5 := hide (H_4.out.keep hb5)
        have V_5 := hide (hf5)
        have U_5 := hide (ht5)
        clear hb5 B_4 F_4 G_4 H_4 hf5 ht5 HBl
        go_wp2_with fail
        refine (HR.out w5 F_5.out G_5.out H_5.out (by simp) (by simp) (by simp)).mono ?_
        rintro y w6 ⟨v6, u6, rfl, hf6, ht6, hb6⟩
        have B_6 := hide (B_5.out.trans (hb6.mono B_5.out.size))
        have V_6 := hide (V_5.out.keep hb6)
        have U_6 := hide (U_5.out.kept hb6)
        have X_6 := hide (hf6)
        have Y_6 := hide (ht6)
        clear hb6 B_5 F_5 G_5 H_5 V_5 U_5 hf6 ht6 HR
        have hl1 : T.1.length ≤ 1000000 := Nat.le_trans HL.out.1 (by omega)
        have hl2 : T.2.length ≤ 1000000 := Nat.le_trans HL.out.2 (HN.out (by simp) (by simp))
        clear HL HN
        go_wp2_with fail
        refine (same_own V_6.out X_6.out hl1).mono ?_
        rintro y w7 ⟨rfl, hb7⟩
        have B_7 := hide (B_6.out.trans (hb7.mono B_6.out.size))
        have U_7 := hide (U_6.out.kept hb7)
        have Y_7 := hide (Y_6.out.kept hb7)
        clear hb7 B_6 V_6 U_6 X_6 Y_6 hl1
        have e1 : decide (T.1 = T.1) = true := decide_eq_true rfl
        rw [e1]
        go_wp2_with fail
        refine (texts_own U_7.out Y_7.out hl2).mono ?_
        rintro y w8 ⟨rfl, hb8⟩
        have B_8 := hide (B_7.out.trans (hb8.mono B_7.out.size))
        clear hb8 B_7 U_7 Y_7 hl2
        have e2 : decide (T.2 = T.2) = true := decide_eq_true rfl
        rw [e2]
        clear e1 e2
        go_wp2
        go_ret
        exact ⟨rfl, B_8.out⟩
end Go.Proofs.Ytghnieddokhagaa.Tr
