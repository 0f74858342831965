/-
  The laws of two trees, together: BlendOne, over whatever tells of the example and of the program's own answer.
-/
import Derived.BigQuiet
import Derived.Test.YtghnieddokhagaaNG
namespace Go.Proofs.Ytghnieddokhagaa.Tr
open Go Go.RowKit Kt Lw Li Lx Df Al

theorem trees_left {o a : List Fl} (ho : fine o = true) (ha : fine a = true) : trees mgT o a o = (a, []) := by
  obtain ⟨g1, l1, _⟩ := fine_is ho
  obtain ⟨g2, l2, _⟩ := fine_is ha
  obtain ⟨h1, h2⟩ := outs_all g2 (asc_both a o) (fun p hp => can_both g2 g1 hp) (one_left mgT o a) (fun f hf => mem_both.2 (.inl ⟨f, hf, rfl⟩))
  rw [trees_is mgT o (by omega), h1, h2]
theorem trees_right {o a : List Fl} (ho : fine o = true) (ha : fine a = true) : trees mgT o o a = (a, []) := by
  obtain ⟨g1, l1, _⟩ := fine_is ho
  obtain ⟨g2, l2, _⟩ := fine_is ha
  obtain ⟨h1, h2⟩ := outs_all g2 (asc_both o a) (fun p hp => can_both g1 g2 hp) (one_right mgT o a) (fun f hf => mem_both.2 (.inr ⟨f, hf, rfl⟩))
  rw [trees_is mgT o (by omega), h1, h2]
theorem trees_alike {o a : List Fl} (ha : fine a = true) : trees mgT o a a = (a, []) := by
  obtain ⟨g2, l2, _⟩ := fine_is ha
  obtain ⟨h1, h2⟩ := outs_all g2 (asc_both a a) (fun p hp => can_both g2 g2 hp) (one_alike mgT o a) (fun f hf => mem_both.2 (.inl ⟨f, hf, rfl⟩))
  rw [trees_is mgT o (by omega), h1, h2]
theorem ow_none {w : World} {B : Nat} {u : Value} (h : OwT w B tS u []) : ∃ A c, u = .slice A 0 c := by
  obtain ⟨A, c, e, _⟩ := h.vs
  exact ⟨A, c, e⟩
theorem same_one {w : World} {B : Nat} {v : Value} {L : List Fl} {A' : Option Addr} {c' : Nat} (h : OwF w B v L) (h' : Fls w A' c' L) (hn : L.length ≤ 1000000) :
    Calls Try.prog 11 #[v, .slice A' L.length c'] w fun y w' => y = .returned (.bool true) ∧ Below w.heap.size w w' := by
  obtain ⟨A, c, rfl, hs⟩ := h.fls
  have := same_any L L A A' c c' w hs h' hn
  rw [decide_eq_true rfl] at this
  exact this
set_option maxRecDepth 100000 in
set_option maxHeartbeats 8000000 in
theorem lawOne_any (o a : List Fl) (Ao Aa : Option Addr) (co ca : Nat) (w : World) (ho : Fls w Ao co o) (ha : Fls w Aa ca a)
    (hwk : ∀ wz, Below w.heap.size w wz → Calls Try.prog 7 #[] wz fun y w' => y = .returned (.bool true) ∧ Below wz.heap.size wz w')
    (hbl : ∀ (x y z : List Fl) (A1 A2 A3 : Option Addr) (c1 c2 c3 : Nat) wz, Below w.heap.size w wz → Fls wz A1 c1 x → Fls wz A2 c2 y → Fls wz A3 c3 z → fine x = true → fine y = true → fine z = true → Calls Try.prog 9 #[.slice A1 x.length c1, .slice A2 y.length c2, .slice A3 z.length c3] wz fun e w' =>
      ∃ v u, e = .returned (.tuple #[v, u]) ∧ OwF w' wz.heap.size v (trees mgT x y z).1 ∧ OwT w' wz.heap.size tS u (trees mgT x y z).2 ∧ Below wz.heap.size wz w') :
    Calls Try.prog 5 #[.slice Ao o.length co, .slice Aa a.length ca] w fun y w' => y = .returned (.bool true) ∧ Below w.heap.size w w' := by
  have HW := hide hwk
  have HX := hide (fun (wz : World) (h : Fls wz Ao co o) => good_any o Ao co wz h)
  have HY := hide (fun (wz : World) (h : Fls wz Aa ca a) => good_any a Aa ca wz h)
  have H1 := hide (fun (wz : World) (hz : Below w.heap.size w wz) (h1 : Fls wz Ao co o) (h2 : Fls wz Aa ca a) (fo : fine o = true) (fa : fine a = true) => by
    have := hbl o a o Ao Aa Ao co ca co wz hz h1 h2 h1 fo fa fo
    rw [trees_left fo fa] at this
    exact this)
  have H2 := hide (fun (wz : World) (hz : Below w.heap.size w wz) (h1 : Fls wz Ao co o) (h2 : Fls wz Aa ca a) (fo : fine o = true) (fa : fine a = true) => by
    have := hbl o o a Ao Ao Aa co co ca wz hz h1 h1 h2 fo fo fa
    rw [trees_right fo fa] at this
    exact this)
  have H3 := hide (fun (wz : World) (hz : Below w.heap.size w wz) (h1 : Fls wz Ao co o) (h2 : Fls wz Aa ca a) (fo : fine o = true) (fa : fine a = true) => by
    have := hbl o a a Ao Aa Aa co ca ca wz hz h1 h2 h2 fo fa fa
    rw [trees_alike fa] at this
    exact this)
  have HS := hide (fun (wz : World) (B : Nat) (v : Value) (h : OwF wz B v a) (h2 : Fls wz Aa ca a) (fa : fine a = true) => same_one h h2 (fine_texts fa).1)
  obtain ⟨ko, hko⟩ : ∃ ko, ko = o.length := ⟨_, rfl⟩
  obtain ⟨ka, hka⟩ : ∃ ka, ka = a.length := ⟨_, rfl⟩
  rw [← hko] at HX H1 H2 H3 ⊢
  rw [← hka] at HY H1 H2 H3 HS ⊢
  clear hko hka hwk hbl
  generalize fine o = fo at *
  generalize fine a = fa at *
  have B_0 := hide (Below.refl w.heap.size w)
  have F_0 := hide (ho)
  have G_0 := hide (ha)
  clear ho ha
  go_enter Try.func5, Try.ntmps5
  go_wp2_with fail
  refine (HW.out w B_0.out).mono ?_
  rintro y w1 ⟨rfl, hb1⟩
  have B_1 := hide (B_0.out.trans (hb1.mono B_0.out.size))
  have F_1 := hide (F_0.out.keep hb1)
  have G_1 := hide (G_0.out.keep hb1)
  clear hb1 B_0 F_0 G_0 HW
  go_wp2_with fail
  refine (HX.out w1 F_1.out).mono ?_
  rintro y w2 ⟨rfl, hb2⟩
  have B_2 := hide (B_1.out.trans (hb2.mono B_1.out.size))
  have F_2 := hide (F_1.out.keep hb2)
  have G_2 := hide (G_1.out.keep hb2)
  clear hb2 B_1 F_1 G_1 HX
  go_wp2_with fail
  refine (HY.out w2 G_2.out).mono ?_
  rintro y w3 ⟨rfl, hb3⟩
  have B_3 := hide (B_2.out.trans (hb3.mono B_2.out.size))
  have F_3 := hide (F_2.out.keep hb3)
  have G_3 := hide (G_2.out.keep hb3)
  clear hb3 B_2 F_2 G_2 HY
  cases fo with
  | false =>
    clear H1 H2 H3 HS
    go_wp2
    go_ret
    exact ⟨rfl, B_3.out⟩
  | true =>
    cases fa with
    | false =>
      clear H1 H2 H3 HS
      go_wp2
      go_ret
      exact ⟨rfl, B_3.out⟩
    | true =>
      go_wp2_with fail
      refine (H1.out w3 B_3.out F_3.out G_3.out (by simp) (by simp)).mono ?_
      rintro y w4 ⟨v5, u5, rfl, hf5, ht5, hb4⟩
      obtain ⟨A5, c5, rfl⟩ := ow_none ht5
      have B_4 := hide (B_3.out.trans (hb4.mono B_3.out.size))
      have F_4 := hide (F_3.out.keep hb4)
      have G_4 := hide (G_3.out.keep hb4)
      have X_4 := hide (hf5)
      clear hb4 B_3 F_3 G_3 hf5 ht5 H1
      go_wp2_with fail
      refine (H2.out w4 B_4.out F_4.out G_4.out (by simp) (by simp)).mono ?_
      rintro y w5 ⟨v6, u6, rfl, hf6, ht6, hb5⟩
      obtain ⟨A6, c6, rfl⟩ := ow_none ht6
      have B_5 := hide (B_4.out.trans (hb5.mono B_4.out.size))
      have F_5 := hide (F_4.out.keep hb5)
      have G_5 := hide (G_4.out.keep hb5)
      have X_5 := hide (X_4.out.keep hb5)
      have Y_5 := hide (hf6)
      clear hb5 B_4 F_4 G_4 X_4 hf6 ht6 H2
      go_wp2_with fail
      refine (H3.out w5 B_5.out F_5.out G_5.out (by simp) (by simp)).mono ?_
      rintro y w6 ⟨v7, u7, rfl, hf7, ht7, hb6⟩
      obtain ⟨A7, c7, rfl⟩ := ow_none ht7
      have B_6 := hide (B_5.out.trans (hb6.mono B_5.out.size))
      have G_6 := hide (G_5.out.keep hb6)
      have X_6 := hide (X_5.out.keep hb6)
      have Y_6 := hide (Y_5.out.keep hb6)
      have Z_6 := hide (hf7)
      clear hb6 B_5 F_5 G_5 X_5 Y_5 hf7 ht7 H3
      go_wp2_with fail
      refine (HS.out w6 _ _ X_6.out G_6.out (by simp)).mono ?_
      rintro y w7 ⟨rfl, hb7⟩
      have B_7 := hide (B_6.out.trans (hb7.mono B_6.out.size))
      have G_7 := hide (G_6.out.keep hb7)
      have Y_7 := hide (Y_6.out.keep hb7)
      have Z_7 := hide (Z_6.out.keep hb7)
      clear hb7 B_6 G_6 X_6 Y_6 Z_6
      go_wp2_with fail
      refine (HS.out w7 _ _ Y_7.out G_7.out (by simp)).mono ?_
      rintro y w8 ⟨rfl, hb8⟩
      have B_8 := hide (B_7.out.trans (hb8.mono B_7.out.size))
      have G_8 := hide (G_7.out.keep hb8)
      have Z_8 := hide (Z_7.out.keep hb8)
      clear hb8 B_7 G_7 Y_7 Z_7
      go_wp2_with fail
      refine (HS.out w8 _ _ Z_8.out G_8.out (by simp)).mono ?_
      rintro y w9 ⟨rfl, hb9⟩
      have B_9 := hide (B_8.out.trans (hb9.mono B_8.out.size))
      clear hb9 B_8 G_8 Z_8 HS
      go_wp2
      go_ret
      exact ⟨rfl, B_9.out⟩
end Go.Proofs.Ytghnieddokhagaa.Tr
