/-
  The statement ApplyBack, walked.
-/
import Derived.Test.YtfmmececocilhaaBJ
namespace Go.Proofs.Ytfmmececocilhaa.Ap
open Go Go.RowKit Kt Lw Li Df Hu

set_option maxRecDepth 100000 in
set_option maxHeartbeats 4000000 in
theorem back_long (n k m : Nat) (A A' : Option Addr) (c c' : Nat) (w : World) (h : 40 < n ∨ 40 < k) :
    Calls Try.prog 5 #[.slice A n c, .slice A' k c', .int .u8 (m : Int)] w fun y w' => y = .returned (.bool true) ∧ Below w.heap.size w w' := by
  have Haw := hide (awake_any w)
  by_cases h1 : 40 < n
  · have d1 : decide ((40 : Int) < (n : Int)) = true := decide_eq_true (by omega)
    clear h
    go_enter Try.func5, Try.ntmps5
    go_wp2_with fail
    refine Haw.out.mono ?_
    rintro y w1 ⟨rfl, hb1⟩
    go_wp2
    go_ret
    exact ⟨rfl, hb1⟩
  · have d1 : decide ((40 : Int) < (n : Int)) = false := decide_eq_false (by omega)
    have d2 : decide ((40 : Int) < (k : Int)) = true := decide_eq_true (by omega)
    clear h
    go_enter Try.func5, Try.ntmps5
    go_wp2_with fail
    refine Haw.out.mono ?_
    rintro y w1 ⟨rfl, hb1⟩
    go_wp2
    go_ret
    exact ⟨rfl, hb1⟩
set_option maxRecDepth 100000 in
set_option maxHeartbeats 2000000 in
theorem lawBack_any (a b : Ls) (m : Nat) (A A' : Option Addr) (c c' : Nat) (P P' : Nat → Prop) (w : World) (hs : Vs w P A c (texts a)) (hs' : Vs w P' A' c' (texts b)) (_hm : m < 256)
    (hxa : ∀ x ∈ a, x.length ≤ 140737488351232) (hxb : ∀ x ∈ b, x.length ≤ 140737488351232) :
    Calls Try.prog 5 #[.slice A a.length c, .slice A' b.length c', .int .u8 (m : Int)] w fun y w' => y = .returned (.bool true) ∧ Below w.heap.size w w' := by
  by_cases hlen : 40 < a.length ∨ 40 < b.length
  · exact back_long a.length b.length m A A' c c' w hlen
  have ha : a.length ≤ 40 := by omega
  have hb : b.length ≤ 40 := by omega
  obtain ⟨r, hr⟩ : ∃ r, r = m % 51 := ⟨_, rfl⟩
  have hrm : (m : Int) % 51 = (r : Int) := by omega
  have hr5 : r ≤ 50 := by omega
  obtain ⟨g1, g2, g3, g4, g5⟩ := between_appl a b r
  obtain ⟨f1, f2, f3⟩ := bt_facts a b r ha hb hxa hxb
  have Haw := hide (awake_any w)
  have Hs := hide hs.bound
  have Hs' := hide hs'.bound
  have HBt := hide (fun w1 (hb1 : Below w.heap.size w w1) => between_yes a b r A A' c c' _ _ w1 (Lw.Vs.below hs.bound hb1) (Lw.Vs.below hs'.bound hb1) ha hb (by omega) hxa hxb)
  obtain ⟨HL, hHL⟩ : ∃ HL, HL = mkHs a r 0 (D a b) := ⟨_, rfl⟩
  rw [← hHL] at g1 g2 g3 g4 g5 f1 f2 f3 HBt
  obtain ⟨TL, hTL⟩ : ∃ TL, TL = HL.map hturn := ⟨_, rfl⟩
  rw [← hTL] at g2 g4 g5 f3
  have hTn : turnL HL = TL := by rw [turnL, if_pos g3, hTL]
  have hTn2 : turnL TL = HL := by rw [turnL, if_pos g4, g5]
  have hTl : TL.length = HL.length := by rw [hTL, List.length_map]
  have HAp := hide (fun (w1 : World) (Al : Option Addr) (cl : Nat) (hb1 : Below w.heap.size w w1) (hk : Hks w1 Al cl HL) => apply_any a HL A Al c cl _ w1 (Lw.Vs.below hs.bound hb1) hk (by omega) (fun h hh => (f2 h hh).1) (by omega))
  have HAp2 := hide (fun (w1 : World) (Al : Option Addr) (cl : Nat) (hb1 : Below w.heap.size w w1) (hk : Hks w1 Al cl TL) => apply_any b TL A' Al c' cl _ w1 (Lw.Vs.below hs'.bound hb1) hk (by omega) (fun h hh => (f3 h hh).1) (by omega))
  rw [g1] at HAp
  rw [g2] at HAp2
  have HTu := hide (fun (w1 : World) (Al : Option Addr) (cl : Nat) (hk : Hks w1 Al cl HL) => aturn_any HL Al cl w1 hk (by omega) (fun h hh => (f2 h hh).1) (fun h hh x hx => Nat.le_trans ((f2 h hh).2.2 x hx) (by omega)))
  rw [hTn] at HTu
  have HTx : ∀ h ∈ TL, ∀ x ∈ h.lines, x.length ≤ 9223372036854775807 := fun h hh x hx => Nat.le_trans ((f3 h hh).2.2 x hx) (by omega)
  have HTu2 := hide (fun (w1 : World) (Al : Option Addr) (cl : Nat) (hk : Hks w1 Al cl TL) => aturn_any TL Al cl w1 hk (by omega) (fun h hh => (f3 h hh).1) HTx)
  rw [hTn2] at HTu2
  have HR1 := hide (fun (w1 : World) (Al : Option Addr) (cl : Nat) (hk : Hks w1 Al cl HL) => aright_any HL Al cl w1 hk (by omega) (fun h hh => (f2 h hh).1))
  have HR2 := hide (fun (w1 : World) (Al : Option Addr) (cl : Nat) (hk : Hks w1 Al cl TL) => aright_any TL Al cl w1 hk (by omega) (fun h hh => (f3 h hh).1))
  rw [g3] at HR1
  rw [g4] at HR2
  have HSm := hide (fun (w1 : World) (Al Am : Option Addr) (cl cm : Nat) (hk : Hks w1 Al cl HL) (hk2 : Hks w1 Am cm HL) => hsame_any HL Al Am cl cm w1 hk hk2 (by omega) (fun h hh => by have := (f2 h hh).2.1; omega))
  have HX := hide (fun (w1 : World) (Al : Option Addr) (cl : Nat) (hb1 : Below w.heap.size w w1) (hv : Vs w1 (fun b => b < w1.heap.size) Al cl (texts b)) => texts_any b b Al A' cl c' _ _ w1 hv (Lw.Vs.below hs'.bound hb1) (by omega))
  have HY := hide (fun (w1 : World) (Al : Option Addr) (cl : Nat) (hb1 : Below w.heap.size w w1) (hv : Vs w1 (fun b => b < w1.heap.size) Al cl (texts a)) => texts_any a a Al A cl c _ _ w1 hv (Lw.Vs.below hs.bound hb1) (by omega))
  rw [decide_eq_true rfl] at HX HY
  rw [hTl] at HAp2 HTu2 HR2
  obtain ⟨n, hn⟩ : ∃ n, n = a.length := ⟨_, rfl⟩
  obtain ⟨k, hk⟩ : ∃ k, k = b.length := ⟨_, rfl⟩
  obtain ⟨q, hq⟩ : ∃ q, q = HL.length := ⟨_, rfl⟩
  rw [← hn] at HBt HAp HY ha ⊢
  rw [← hk] at HBt HAp2 HX hb ⊢
  rw [← hq] at HAp HAp2 HTu HTu2 HR1 HR2 HSm
  have Hq := hide hq
  have Hn := hide hn
  have Hkb := hide hk
  have HTq := hide (show TL.length = q by rw [hTl, hq])
  have d1 : decide ((40 : Int) < (n : Int)) = false := decide_eq_false (by omega)
  have d2 : decide ((40 : Int) < (k : Int)) = false := decide_eq_false (by omega)
  clear hs hs' hxa hxb hlen ha hb hr g1 g2 g3 g4 g5 f1 f2 f3 hHL hTL hTn hTn2 hTl hn hk hq HTx Hs Hs'
  go_enter Try.func5, Try.ntmps5
  go_wp2_with fail
  refine Haw.out.mono ?_
  rintro y w1 ⟨rfl, hb1⟩
  have Hb1 := hide hb1
  clear hb1 Haw
  go_wp2_with fail
  refine (HBt.out w1 Hb1.out).mono ?_
  rintro y w2 ⟨v2, rfl, hv2, hb2⟩
  obtain ⟨Al, cl, rfl, hk2⟩ := hv2.hks
  have Hb2 := hide (Hb1.out.trans (hb2.mono Hb1.out.size))
  have Hk2 := hide hk2
  have HA1 := hide (HAp.out w2 Al cl Hb2.out hk2)
  simp only [← Hq.out]
  clear hv2 hb2 hk2 HBt Hb1 HAp
  go_wp2_with fail
  refine HA1.out.mono ?_
  rintro y w3 ⟨v3, rfl, hv3, hb3⟩
  obtain ⟨A3, c3, rfl, hx3⟩ := hv3.vs
  have Hb3 := hide (Hb2.out.trans (hb3.mono Hb2.out.size))
  have Hk3 := hide (Hk2.out.keep hb3)
  have Hx3 := hide hx3.bound
  have HT1 := hide (HTu.out w3 Al cl Hk3.out)
  simp only [← Hkb.out]
  clear hv3 hb3 hx3 HA1 Hb2 Hk2
  go_wp2_with fail
  refine HT1.out.mono ?_
  rintro y w4 ⟨v4, rfl, hv4, hb4⟩
  obtain ⟨A4, c4, rfl, hk4⟩ := hv4.hks
  have Hb4 := hide (Hb3.out.trans (hb4.mono Hb3.out.size))
  have Hk4 := hide (Hk3.out.keep hb4)
  have Hx4 := hide (vs_keep Hx3.out hb4)
  have Hm4 := hide hk4
  have HA2 := hide (HAp2.out w4 A4 c4 Hb4.out hk4)
  simp only [HTq.out]
  clear hv4 hb4 hk4 HT1 Hb3 Hk3 Hx3 HAp2
  go_wp2_with fail
  refine HA2.out.mono ?_
  rintro y w5 ⟨v5, rfl, hv5, hb5⟩
  obtain ⟨A5, c5, rfl, hx5⟩ := hv5.vs
  have Hb5 := hide (Hb4.out.trans (hb5.mono Hb4.out.size))
  have Hk5 := hide (Hk4.out.keep hb5)
  have Hm5 := hide (Hm4.out.keep hb5)
  have HX5 := hide (HX.out w5 A3 c3 Hb5.out (vs_keep Hx4.out hb5))
  have Hy5 := hide hx5.bound
  simp only [← Hn.out]
  clear hv5 hb5 hx5 HA2 Hb4 Hk4 Hm4 Hx4 HX
  go_wp2_with fail
  refine HX5.out.mono ?_
  rintro y w6 ⟨rfl, hb6⟩
  have Hb6 := hide (Hb5.out.trans (hb6.mono Hb5.out.size))
  have Hk6 := hide (Hk5.out.keep hb6)
  have Hm6 := hide (Hm5.out.keep hb6)
  have HY6 := hide (HY.out w6 A5 c5 Hb6.out (vs_keep Hy5.out hb6))
  clear hb6 HX5 Hb5 Hk5 Hm5 Hy5 HY
  go_wp2_with fail
  refine HY6.out.mono ?_
  rintro y w7 ⟨rfl, hb7⟩
  have Hb7 := hide (Hb6.out.trans (hb7.mono Hb6.out.size))
  have Hk7 := hide (Hk6.out.keep hb7)
  have Hm7 := hide (Hm6.out.keep hb7)
  have HR7 := hide (HR1.out w7 Al cl Hk7.out)
  clear hb7 HY6 Hb6 Hk6 Hm6 HR1
  go_wp2_with fail
  refine HR7.out.mono ?_
  rintro y w8 ⟨rfl, hb8⟩
  have Hb8 := hide (Hb7.out.trans (hb8.mono Hb7.out.size))
  have Hk8 := hide (Hk7.out.keep hb8)
  have Hm8 := hide (Hm7.out.keep hb8)
  have HR8 := hide (HR2.out w8 A4 c4 Hm8.out)
  clear hb8 HR7 Hb7 Hk7 Hm7 HR2
  go_wp2_with fail
  refine HR8.out.mono ?_
  rintro y w9 ⟨rfl, hb9⟩
  have Hb9 := hide (Hb8.out.trans (hb9.mono Hb8.out.size))
  have Hk9 := hide (Hk8.out.keep hb9)
  have HT9 := hide (HTu2.out w9 A4 c4 (Hm8.out.keep hb9))
  clear hb9 HR8 Hb8 Hk8 Hm8 HTu2
  go_wp2_with fail
  refine HT9.out.mono ?_
  rintro y w10 ⟨v10, rfl, hv10, hb10⟩
  obtain ⟨A10, c10, rfl, hk10⟩ := hv10.hks
  have Hb10 := hide (Hb9.out.trans (hb10.mono Hb9.out.size))
  have HS10 := hide (HSm.out w10 A10 Al c10 cl hk10 (Hk9.out.keep hb10))
  simp only [← Hq.out]
  clear hv10 hb10 hk10 HT9 Hb9 Hk9 HSm
  go_wp2_with fail
  refine HS10.out.mono ?_
  rintro y w11 ⟨rfl, hb11⟩
  have Hb11 := hide (Hb10.out.trans (hb11.mono Hb10.out.size))
  clear hb11 HS10 Hb10
  go_wp2
  go_ret
  exact ⟨rfl, Hb11.out⟩
end Go.Proofs.Ytfmmececocilhaa.Ap
