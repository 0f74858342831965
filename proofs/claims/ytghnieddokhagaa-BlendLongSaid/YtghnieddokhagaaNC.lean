/-
  The reference of two trees, together: what becomes of a path.
-/
import Derived.BigQuiet
import Derived.Test.YtghnieddokhagaaQTH
import Derived.Test.YtghnieddokhagaaQTA
import Derived.Test.YtghnieddokhagaaMR
namespace Go.Proofs.Ytghnieddokhagaa.Tr
open Go Go.RowKit Kt Lw Li Lx Df Al

theorem get_le {t : List Fl} {p : Bs} {n : Nat} (h : ∀ f ∈ t, f.text.length ≤ n) : (get t p).1.length ≤ n := by
  cases hb : (get t p).2 with
  | true =>
    obtain ⟨f, hf, _, e⟩ := get_some hb
    rw [e]; exact h f hf
  | false => rw [get_empty hb]; exact Nat.zero_le _
set_option maxRecDepth 100000 in
set_option maxHeartbeats 8000000 in
theorem rone_any (o a b : List Fl) (p : Bs) (Ao Aa Ab : Option Addr) (co ca cb : Nat) (w : World) (ho : Fls w Ao co o) (ha : Fls w Aa ca a) (hb : Fls w Ab cb b) (no : o.length ≤ 1000000) (na : a.length ≤ 1000000) (nb : b.length ≤ 1000000)
    (lo : ∀ f ∈ o, f.text.length ≤ 600) (la : ∀ f ∈ a, f.text.length ≤ 600) (lb : ∀ f ∈ b, f.text.length ≤ 600) :
    Calls Try.prog 19 #[.slice Ao o.length co, .slice Aa a.length ca, .slice Ab b.length cb, .string ⟨p.toArray⟩] w fun y w' =>
      y = .returned (.tuple #[.string ⟨(one mgT o a b p).1.toArray⟩, .bool (one mgT o a b p).2.1, .bool (one mgT o a b p).2.2]) ∧ Below w.heap.size w w' := by
  have HX := hide (fun (wz : World) (h : Fls wz Ao co o) => rget_any o p Ao co wz h no)
  have HY := hide (fun (wz : World) (h : Fls wz Aa ca a) => rget_any a p Aa ca wz h na)
  have HZ := hide (fun (wz : World) (h : Fls wz Ab cb b) => rget_any b p Ab cb wz h nb)
  have hlx := get_le (p := p) lo
  have hly := get_le (p := p) la
  have hlz := get_le (p := p) lb
  have hex := get_empty (t := o) (p := p)
  have hey := get_empty (t := a) (p := p)
  have hez := get_empty (t := b) (p := p)
  have hone : one mgT o a b p = if get a p = get b p ∨ get b p = get o p then ((get a p).1, (get a p).2, false)
    else if get a p = get o p then ((get b p).1, (get b p).2, false)
    else if (get a p).2 = false then ((get b p).1, true, true)
    else if (get b p).2 = false then ((get a p).1, true, true)
    else if 65536 < (mgT (get o p).1 (get a p).1 (get b p).1).1.length then (if lt (get a p).1 (get b p).1 then (get b p).1 else (get a p).1, true, true)
    else ((mgT (get o p).1 (get a p).1 (get b p).1).1, true, decide (0 < (mgT (get o p).1 (get a p).1 (get b p).1).2)) := rfl
  generalize one mgT o a b p = R at *
  generalize get o p = X at *
  generalize get a p = Y at *
  generalize get b p = Z at *
  obtain ⟨x, xb⟩ := X
  obtain ⟨y, yb⟩ := Y
  obtain ⟨z, zb⟩ := Z
  simp only [Prod.mk.injEq] at hlx hly hlz hex hey hez hone HX HY HZ
  have HT := hide (fun wz => rtext_any x y z wz hlx hly hlz)
  have HL := hide (fun wz => rless_any y z wz (by omega) (by omega))
  obtain ⟨ko, hko⟩ : ∃ ko, ko = o.length := ⟨_, rfl⟩
  obtain ⟨ka, hka⟩ : ∃ ka, ka = a.length := ⟨_, rfl⟩
  obtain ⟨kb, hkb⟩ : ∃ kb, kb = b.length := ⟨_, rfl⟩
  rw [← hko] at HX ⊢
  rw [← hka] at HY ⊢
  rw [← hkb] at HZ ⊢
  have Hone := hide hone
  have Hex := hide hex
  have Hey := hide hey
  have Hez := hide hez
  clear hone hex hey hez hko hka hkb no na nb lo la lb
  have B_0 := hide (Below.refl w.heap.size w)
  have F_0 := hide (ho)
  have G_0 := hide (ha)
  have H_0 := hide (hb)
  clear ho ha hb
  go_enter Try.func19, Try.ntmps19
  go_wp2_with fail
  refine (HX.out w F_0.out).mono ?_
  rintro y w1 ⟨rfl, hb1⟩
  have B_1 := hide (B_0.out.trans (hb1.mono B_0.out.size))
  have G_1 := hide (G_0.out.keep hb1)
  have H_1 := hide (H_0.out.keep hb1)
  clear hb1 B_0 F_0 G_0 H_0 HX
  go_wp2_with fail
  refine (HY.out w1 G_1.out).mono ?_
  rintro y w2 ⟨rfl, hb2⟩
  have B_2 := hide (B_1.out.trans (hb2.mono B_1.out.size))
  have H_2 := hide (H_1.out.keep hb2)
  clear hb2 B_1 G_1 H_1 HY
  go_wp2_with fail
  refine (HZ.out w2 H_2.out).mono ?_
  rintro y w3 ⟨rfl, hb3⟩
  have B_3 := hide (B_2.out.trans (hb3.mono B_2.out.size))
  clear hb3 B_2 H_2 HZ
  cases yb with
  | false =>
    obtain rfl : y = [] := (Hey.out rfl).1
    cases zb with
    | false =>
      obtain rfl : z = [] := (Hez.out rfl).1
      have Hr := hide (show R = ([], false, false) by rw [Hone.out]; simp)
      clear Hone Hex Hey Hez HT HL hlx hly hlz
      go_wp2
      go_ret3
      exact ⟨by rw [Hr.out]; rfl, B_3.out⟩
    | true =>
      cases xb with
      | true =>
        by_cases hzx : z = x
        · subst hzx
          have Hr := hide (show R = ([], false, false) by rw [Hone.out]; simp)
          have e1 : (z == z) = true := beq_self_eq_true z
          clear Hone Hex Hey Hez HT HL hlx hly hlz
          go_wp2
          go_ret3
          exact ⟨by rw [Hr.out]; rfl, B_3.out⟩
        · skip
          have hzx1 : (z == x) = false := by rw [beq_eq_false_iff_ne]; exact hzx
          have Hr := hide (show R = (z, true, true) by rw [Hone.out]; simp [hzx])
          clear Hone Hex Hey Hez HT HL hlx hly hlz
          go_wp2
          go_ret3
          exact ⟨by rw [Hr.out]; rfl, B_3.out⟩
      | false =>
        obtain rfl : x = [] := (Hex.out rfl).1
        have Hr := hide (show R = (z, true, false) by rw [Hone.out]; simp)
        clear Hone Hex Hey Hez HT HL hlx hly hlz
        go_wp2
        go_ret3
        exact ⟨by rw [Hr.out]; rfl, B_3.out⟩
  | true =>
    cases zb with
    | false =>
      obtain rfl : z = [] := (Hez.out rfl).1
      cases xb with
      | false =>
        obtain rfl : x = [] := (Hex.out rfl).1
        have Hr := hide (show R = (y, true, false) by rw [Hone.out]; simp)
        clear Hone Hex Hey Hez HT HL hlx hly hlz
        go_wp2
        go_ret3
        exact ⟨by rw [Hr.out]; rfl, B_3.out⟩
      | true =>
        by_cases hyx : y = x
        · subst hyx
          have Hr := hide (show R = ([], false, false) by rw [Hone.out]; simp)
          have e1 : (y == y) = true := beq_self_eq_true y
          clear Hone Hex Hey Hez HT HL hlx hly hlz
          go_wp2
          go_ret3
          exact ⟨by rw [Hr.out]; rfl, B_3.out⟩
        · skip
          have hyx1 : (y == x) = false := by rw [beq_eq_false_iff_ne]; exact hyx
          have Hr := hide (show R = (y, true, true) by rw [Hone.out]; simp [hyx])
          clear Hone Hex Hey Hez HT HL hlx hly hlz
          go_wp2
          go_ret3
          exact ⟨by rw [Hr.out]; rfl, B_3.out⟩
    | true =>
      by_cases hyz : y = z
      · subst hyz
        have Hr := hide (show R = (y, true, false) by rw [Hone.out]; simp)
        have e1 : (y == y) = true := beq_self_eq_true y
        clear Hone Hex Hey Hez HT HL hlx hly hlz
        go_wp2
        go_ret3
        exact ⟨by rw [Hr.out]; rfl, B_3.out⟩
      · skip
        have hyz1 : (y == z) = false := by rw [beq_eq_false_iff_ne]; exact hyz
        cases xb with
        | false =>
          have n1 : ¬ ((y = z ∧ true = true) ∨ (z = x ∧ true = false)) := by simp [hyz]
          have n2 : ¬ (y = x ∧ true = false) := by simp
          have hone := Hone.out
          rw [if_neg n1, if_neg n2, if_neg (by decide), if_neg (by decide)] at hone
          clear Hone Hex Hey Hez hlx hly hlz n1 n2
          go_wp2_with fail
          refine (HT.out w3).mono ?_
          rintro y w4 ⟨rfl, hb4⟩
          have B_4 := hide (B_3.out.trans (hb4.mono B_3.out.size))
          clear hb4 B_3 HT
          generalize (mgT x y z).1 = s at *
          generalize (mgT x y z).2 = n at *
          by_cases hs : 65536 < s.length
          · have d1 : decide (65536 < (s.length : Int)) = true := decide_eq_true (by omega)
            have d2 : decide (65536 < s.length) = true := decide_eq_true hs
            rw [if_pos hs] at hone
            clear hs
            go_wp2_with fail
            refine (HL.out w4).mono ?_
            rintro y w5 ⟨rfl, hb5⟩
            have B_5 := hide (B_4.out.trans (hb5.mono B_4.out.size))
            clear hb5 B_4 HL d1 d2
            cases hl : Op.bytesLess y z with
            | true =>
              rw [show lt y z = true from hl, if_pos rfl] at hone
              have Hr := hide hone
              clear hone hl
              go_wp2
              go_ret3
              exact ⟨by rw [Hr.out]; rfl, B_5.out⟩
            | false =>
              rw [show lt y z = false from hl, if_neg (by decide)] at hone
              have Hr := hide hone
              clear hone hl
              go_wp2
              go_ret3
              exact ⟨by rw [Hr.out]; rfl, B_5.out⟩
          · have d1 : decide (65536 < (s.length : Int)) = false := decide_eq_false (by omega)
            have d2 : decide (65536 < s.length) = false := decide_eq_false hs
            rw [if_neg hs] at hone
            have Hr := hide hone
            have Hdn := hide (show decide (0 < n) = decide ((0 : Int) < (n : Int)) by rw [decide_eq_decide]; omega)
            clear hs hone HL
            go_wp2
            go_ret3
            exact ⟨by rw [Hr.out, Hdn.out]; rfl, B_4.out⟩
        | true =>
          by_cases hzx : z = x
          · subst hzx
            have Hr := hide (show R = (y, true, false) by rw [Hone.out]; simp)
            have e1 : (z == z) = true := beq_self_eq_true z
            clear Hone Hex Hey Hez HT HL hlx hly hlz
            go_wp2
            go_ret3
            exact ⟨by rw [Hr.out]; rfl, B_3.out⟩
          · skip
            have hzx1 : (z == x) = false := by rw [beq_eq_false_iff_ne]; exact hzx
            by_cases hyx : y = x
            · subst hyx
              have Hr := hide (show R = (z, true, false) by rw [Hone.out]; simp [hyz, hzx])
              have e1 : (y == y) = true := beq_self_eq_true y
              clear Hone Hex Hey Hez HT HL hlx hly hlz
              go_wp2
              go_ret3
              exact ⟨by rw [Hr.out]; rfl, B_3.out⟩
            · skip
              have hyx1 : (y == x) = false := by rw [beq_eq_false_iff_ne]; exact hyx
              have n1 : ¬ ((y = z ∧ true = true) ∨ (z = x ∧ true = true)) := by simp [hyz, hzx]
              have n2 : ¬ (y = x ∧ true = true) := by simp [hyx]
              have hone := Hone.out
              rw [if_neg n1, if_neg n2, if_neg (by decide), if_neg (by decide)] at hone
              clear Hone Hex Hey Hez hlx hly hlz n1 n2
              go_wp2_with fail
              refine (HT.out w3).mono ?_
              rintro y w4 ⟨rfl, hb4⟩
              have B_4 := hide (B_3.out.trans (hb4.mono B_3.out.size))
              clear hb4 B_3 HT
              generalize (mgT x y z).1 = s at *
              generalize (mgT x y z).2 = n at *
              by_cases hs : 65536 < s.length
              · have d1 : decide (65536 < (s.length : Int)) = true := decide_eq_true (by omega)
                have d2 : decide (65536 < s.length) = true := decide_eq_true hs
                rw [if_pos hs] at hone
                clear hs
                go_wp2_with fail
                refine (HL.out w4).mono ?_
                rintro y w5 ⟨rfl, hb5⟩
                have B_5 := hide (B_4.out.trans (hb5.mono B_4.out.size))
                clear hb5 B_4 HL d1 d2
                cases hl : Op.bytesLess y z with
                | true =>
                  rw [show lt y z = true from hl, if_pos rfl] at hone
                  have Hr := hide hone
                  clear hone hl
                  go_wp2
                  go_ret3
                  exact ⟨by rw [Hr.out]; rfl, B_5.out⟩
                | false =>
                  rw [show lt y z = false from hl, if_neg (by decide)] at hone
                  have Hr := hide hone
                  clear hone hl
                  go_wp2
                  go_ret3
                  exact ⟨by rw [Hr.out]; rfl, B_5.out⟩
              · have d1 : decide (65536 < (s.length : Int)) = false := decide_eq_false (by omega)
                have d2 : decide (65536 < s.length) = false := decide_eq_false hs
                rw [if_neg hs] at hone
                have Hr := hide hone
                have Hdn := hide (show decide (0 < n) = decide ((0 : Int) < (n : Int)) by rw [decide_eq_decide]; omega)
                clear hs hone HL
                go_wp2
                go_ret3
                exact ⟨by rw [Hr.out, Hdn.out]; rfl, B_4.out⟩
end Go.Proofs.Ytghnieddokhagaa.Tr
