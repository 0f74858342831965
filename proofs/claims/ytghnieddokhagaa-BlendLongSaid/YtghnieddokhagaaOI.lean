/-
  The law of a new long file on both sides: BlendLong.
-/
import Derived.BigQuiet
import Derived.Test.YtghnieddokhagaaOH
namespace Go.Proofs.Ytghnieddokhagaa.Tr
open Go Go.RowKit Kt Lw Li Lx Df Al

theorem get_one (f p x : Bs) : (get [⟨f, p⟩] x).1 = p ∨ (get [⟨f, p⟩] x).1 = [] := by
  rw [get]
  split
  · exact .inl rfl
  · exact .inr rfl
theorem blong_any (p q : Bs) (Aa Ab : Option Addr) (ca cb : Nat) (w : World) (ha : Fls w Aa ca [⟨[102], p⟩]) (hb : Fls w Ab cb [⟨[102], q⟩]) (h : p ≠ q) (hp : p ≠ []) (hq : q ≠ [])
    (h1 : ∀ c ∈ p, c ≠ 10 ∧ c ≠ 0) (h2 : ∀ c ∈ q, c ≠ 10 ∧ c ≠ 0) (lp : p.length ≤ 40000) (lq : q.length ≤ 40000) :
    Calls Try.prog 9 #[.slice none 0 0, .slice Aa 1 ca, .slice Ab 1 cb] w fun y w' =>
      ∃ v u, y = .returned (.tuple #[v, u]) ∧ OwF w' w.heap.size v [⟨[102], want p q⟩] ∧ OwT w' w.heap.size tS u [[102]] ∧ Below w.heap.size w w' := by
  have l1 := lns_one hp (fun c hc => (h1 c hc).1)
  have l2 := lns_one hq (fun c hc => (h2 c hc).1)
  have hgo : ∀ x : Bs, x.length ≤ 40000 → go none [⟨[102], x⟩] = true := fun x hx => by
    simp only [go, Bool.and_eq_true, decide_eq_true_eq]
    exact ⟨⟨⟨by decide, by show x.length ≤ 65536; omega⟩, rfl⟩, trivial⟩
  have gp : ∀ x, (get [⟨[102], p⟩] x).1.length ≤ 40000 ∧ (lns (get [⟨[102], p⟩] x).1).length ≤ 700 := fun x => by
    rcases get_one [102] p x with e | e
    · rw [e, l1]; exact ⟨lp, by simp⟩
    · rw [e]; exact ⟨by simp, by simp [lns_nil]⟩
  have gq : ∀ x, (get [⟨[102], q⟩] x).1.length ≤ 40000 ∧ (lns (get [⟨[102], q⟩] x).1).length ≤ 700 := fun x => by
    rcases get_one [102] q x with e | e
    · rw [e, l2]; exact ⟨lq, by simp⟩
    · rw [e]; exact ⟨by simp, by simp [lns_nil]⟩
  have h := btrees_any [] [⟨[102], p⟩] [⟨[102], q⟩] none Aa Ab 0 ca cb w (Fls.nil _ _ _) ha hb rfl (hgo p lp) (hgo q lq) (by decide) (by simp) (by simp)
    (fun x => mgT_600 (by simp [get]) (gp x).1 (gq x).1) (fun x wz => mtext_long _ _ _ wz (by simp [get]) (gp x).1 (gq x).1 (by simp [get, lns_nil]) (gp x).2 (gq x).2)
  rw [trees_long [102] (by assumption) hp hq h1 h2] at h
  exact h
set_option maxRecDepth 100000 in
set_option maxHeartbeats 2000000 in
theorem long_no (x y n m : Nat) (w : World) (h : x ≤ 10 ∨ y ≤ 10 ∨ x = y) :
    Calls Try.prog 4 #[.int .u8 (x : Int), .int .u8 (y : Int), .int .u16 (n : Int), .int .u16 (m : Int)] w fun e w' => e = .returned (.bool true) ∧ Below w.heap.size w w' := by
  have HW := hide (wake_any w)
  by_cases h1 : x ≤ 10
  · have d1 : decide ((x : Int) ≤ 10) = true := decide_eq_true (by omega)
    clear h
    go_enter Try.func4, Try.ntmps4
    go_wp2_with fail
    refine HW.out.mono ?_
    rintro e w1 ⟨rfl, hb1⟩
    have Hb := hide hb1
    clear hb1 HW
    go_wp2
    go_ret
    exact ⟨rfl, Hb.out⟩
  · have d1 : decide ((x : Int) ≤ 10) = false := decide_eq_false (by omega)
    by_cases h2 : y ≤ 10
    · have d2 : decide ((y : Int) ≤ 10) = true := decide_eq_true (by omega)
      clear h h1
      go_enter Try.func4, Try.ntmps4
      go_wp2_with fail
      refine HW.out.mono ?_
      rintro e w1 ⟨rfl, hb1⟩
      have Hb := hide hb1
      clear hb1 HW
      go_wp2
      go_ret
      exact ⟨rfl, Hb.out⟩
    · have d2 : decide ((y : Int) ≤ 10) = false := decide_eq_false (by omega)
      obtain rfl : x = y := (h.resolve_left h1).resolve_left h2
      clear h h1 h2
      go_enter Try.func4, Try.ntmps4
      go_wp2_with fail
      refine HW.out.mono ?_
      rintro e w1 ⟨rfl, hb1⟩
      have Hb := hide hb1
      clear hb1 HW
      go_wp2
      go_ret
      exact ⟨rfl, Hb.out⟩
set_option maxRecDepth 100000 in
set_option maxHeartbeats 2000000 in
theorem long_yes (x y n m : Nat) (w : World) (hx : x < 256) (hy : y < 256) (hn : n < 65536) (hm : m < 65536) (h1 : ¬ x ≤ 10) (h2 : ¬ y ≤ 10) (h3 : ¬ x = y) :
    Calls Try.prog 4 #[.int .u8 (x : Int), .int .u8 (y : Int), .int .u16 (n : Int), .int .u16 (m : Int)] w fun e w' => e = .returned (.bool true) ∧ Below w.heap.size w w' := by
  have HW := hide (wake_any w)
  have d1 : decide ((x : Int) ≤ 10) = false := decide_eq_false (by omega)
  have d2 : decide ((y : Int) ≤ 10) = false := decide_eq_false (by omega)
  have d3 : decide ((x : Int) = (y : Int)) = false := decide_eq_false (by omega)
  have d4 : ((x : Int) == (y : Int)) = false := by rw [beq_eq_false_iff_ne]; omega
  obtain ⟨N, hN⟩ : ∃ N, N = 30000 + n % 9000 := ⟨_, rfl⟩
  obtain ⟨M, hM⟩ : ∃ M, M = 30000 + m % 9000 := ⟨_, rfl⟩
  have eN : 30000 + (n : Int) % 9000 = (N : Int) := by omega
  have eM : 30000 + (m : Int) % 9000 = (M : Int) := by omega
  have lN : 30000 ≤ N ∧ N ≤ 39000 := by omega
  have lM : 30000 ≤ M ∧ M ≤ 39000 := by omega
  obtain ⟨X, hX⟩ : ∃ X : UInt8, X.toNat = x := ⟨UInt8.ofNat x, by simp; omega⟩
  obtain ⟨Y, hY⟩ : ∃ Y : UInt8, Y.toNat = y := ⟨UInt8.ofNat y, by simp; omega⟩
  have hXY : X ≠ Y := fun e => h3 (by rw [← hX, ← hY, e])
  have hltX : lt (List.replicate N X) (List.replicate M Y) = decide (x < y) := by
    rw [lt_rep (by omega) (by omega) hXY, ← hX, ← hY, decide_eq_decide, UInt8.lt_iff_toNat_lt]
  have hb1 := fun (P Q : Bs) (eP : P = List.replicate N X) (eQ : Q = List.replicate M Y) (Aa Ab : Option Addr) (ca cb : Nat) (wz : World) (ha : Fls wz Aa ca [⟨[102], P⟩]) (hb : Fls wz Ab cb [⟨[102], Q⟩]) =>
    blong_any P Q Aa Ab ca cb wz ha hb (by
      rw [eP, eQ]; intro e
      have h0 := congrArg (fun l => l.head?) e
      simp only [List.head?_replicate, show N ≠ 0 by omega, show M ≠ 0 by omega, ↓reduceIte, Option.some.injEq] at h0
      exact hXY h0) (by rw [eP]; intro e; have := congrArg List.length e; simp at this; omega) (by rw [eQ]; intro e; have := congrArg List.length e; simp at this; omega)
      (by rw [eP]; intro c hc; obtain rfl := List.eq_of_mem_replicate hc; exact ⟨fun e => by rw [e] at hX; simp at hX; omega, fun e => by rw [e] at hX; simp at hX; omega⟩)
      (by rw [eQ]; intro c hc; obtain rfl := List.eq_of_mem_replicate hc; exact ⟨fun e => by rw [e] at hY; simp at hY; omega, fun e => by rw [e] at hY; simp at hY; omega⟩)
      (by rw [eP, List.length_replicate]; omega) (by rw [eQ, List.length_replicate]; omega)
  have HBl := hide hb1
  have HLt := hide hltX
  have HX := hide hX
  have HY := hide hY
  clear hb1 hN hM hltX hXY hX hY
  go_enter Try.func4, Try.ntmps4
  go_wp2_with fail
  refine HW.out.mono ?_
  rintro e w1 ⟨rfl, hb1⟩
  have hm1 := made_bytes N (by omega) w1
  obtain ⟨w2, hw2⟩ : ∃ w2, w2 = w1.alloc (.cells (u8s (List.replicate N 0)).toArray 5) := ⟨_, rfl⟩
  have hm2 := made_bytes M (by omega) w2
  obtain ⟨w3, hw3⟩ : ∃ w3, w3 = w2.alloc (.cells (u8s (List.replicate M 0)).toArray 5) := ⟨_, rfl⟩
  obtain ⟨g1, hg1⟩ : ∃ g, g = w1.heap.size := ⟨_, rfl⟩
  obtain ⟨g2, hg2⟩ : ∃ g, g = w2.heap.size := ⟨_, rfl⟩
  have r1 : Row w3 g1 5 (u8s (fill N 0 X)) := by rw [hw3, hw2, hg1, fill_zero]; exact (Row.fresh w1 _ _).alloc _
  have r2 : Row w3 g2 5 (u8s (fill M 0 Y)) := by rw [hw3, hg2, fill_zero]; exact Row.fresh w2 _ _
  have b3 : Below w.heap.size w w3 := by
    rw [hw3, hw2]
    exact (hb1.alloc hb1.size _).alloc (by have := hb1.size; simp; omega) _
  have hne : g1 ≠ g2 := by rw [hg1, hg2, hw2]; simp
  have hge : w.heap.size ≤ g1 ∧ w.heap.size ≤ g2 := by rw [hg1, hg2, hw2]; have := hb1.size; simp; omega
  rw [← hw2, ← hg1] at hm1
  rw [← hw3, ← hg2] at hm2
  have R1 := hide r1
  have R2 := hide r2
  have B3 := hide b3
  have Hne := hide hne
  have Hge := hide hge
  clear hb1 HW hw2 hw3 hg1 hg2 r1 r2 b3 hne hge
  go_wp2
  clear hm1 hm2 eN eM
  go_loopw [12] (fun i wr => ∃ k : Nat, k ≤ N ∧ i = .int .i64 k ∧ Hid (Row wr g1 5 (u8s (fill N k X))) ∧ Hid (Row wr g2 5 (u8s (fill M 0 Y))) ∧ Hid (Below w.heap.size w wr)) (fun i _ => N - (intOf i).toNat)
  case atStart => exact ⟨0, Nat.zero_le _, rfl, R1, R2, B3⟩
  case round =>
    obtain ⟨k, hk, rfl, R1, R2, Hb⟩ := hrel
    by_cases hlt : k < N
    · have c0 := (R1.out.cell k).trans (fill_at hlt X)
      have f0 := R1.out.free k
      have r1' := R1.out.put k (.int .u8 (X.toNat : Int))
      rw [fill_set hlt X, HX.out] at r1'
      have r2' := R2.out.off (i := k) (Ne.symm Hne.out) (.int .u8 (x : Int))
      have R1n := hide r1'
      have R2n := hide r2'
      have Hbn := hide (below_put Hb.out (i := k) Hge.out.1 (.int .u8 (x : Int)))
      have hd : decide ((k : Int) < (N : Int)) = true := decide_eq_true (by omega)
      clear r1' r2' R1 R2 Hb
      go_wp2
      exact ⟨⟨k + 1, by omega, by go_num, R1n, R2n, Hbn⟩, by simp [intOf]; omega⟩
    · obtain rfl : k = N := by omega
      have hd : decide ((k : Int) < (k : Int)) = false := decide_eq_false (by omega)
      rw [fill_all] at R1
      obtain ⟨w4, hw4⟩ : ∃ z, z = wr := ⟨_, rfl⟩
      subst hw4
      have R1s := R1
      have R2s := R2
      have Hbs := Hb
      clear R1 R2 Hb B3
      go_wp2
      clear hd
      go_loopw [13] (fun i wr => ∃ j : Nat, j ≤ M ∧ i = .int .i64 j ∧ Hid (Row wr g1 5 (u8s (List.replicate k X))) ∧ Hid (Row wr g2 5 (u8s (fill M j Y))) ∧ Hid (Below w.heap.size w wr)) (fun i _ => M - (intOf i).toNat)
      case atStart => exact ⟨0, Nat.zero_le _, rfl, R1s, R2s, Hbs⟩
      case round =>
        obtain ⟨j, hj, rfl, R1, R2, Hb⟩ := hrel
        clear R1s R2s Hbs
        by_cases hjt : j < M
        · have c0 := (R2.out.cell j).trans (fill_at hjt Y)
          have f0 := R2.out.free j
          have r2' := R2.out.put j (.int .u8 (Y.toNat : Int))
          rw [fill_set hjt Y, HY.out] at r2'
          have r1' := R1.out.off (i := j) Hne.out (.int .u8 (y : Int))
          have R1n := hide r1'
          have R2n := hide r2'
          have Hbn := hide (below_put Hb.out (i := j) Hge.out.2 (.int .u8 (y : Int)))
          have hd : decide ((j : Int) < (M : Int)) = true := decide_eq_true (by omega)
          clear r1' r2' R1 R2 Hb
          go_wp2
          exact ⟨⟨j + 1, by omega, by go_num, R1n, R2n, Hbn⟩, by simp [intOf]; omega⟩
        · obtain rfl : j = M := by omega
          have hd : decide ((j : Int) < (j : Int)) = false := decide_eq_false (by omega)
          rw [fill_all] at R2
          have hc1 := row_conv (List.replicate k X) k g1 List.length_replicate (by omega) wr R1.out
          have hc2 := row_conv (List.replicate j Y) j g2 List.length_replicate (by omega) wr R2.out
          obtain ⟨P, hP⟩ : ∃ P, P = List.replicate k X := ⟨_, rfl⟩
          obtain ⟨Q, hQ⟩ : ∃ Q, Q = List.replicate j Y := ⟨_, rfl⟩
          have HB1 := hide (HBl.out P Q hP hQ)
          have hwant : want P Q = if 65536 < k + j + 34 then (if x < y then Q else P) else marked P Q := by
            unfold want
            rw [marked_len, hP, hQ, List.length_replicate, List.length_replicate, HLt.out]
            simp only [decide_eq_true_eq]
          have pl : P.length = k := by rw [hP, List.length_replicate]
          have ql : Q.length = j := by rw [hQ, List.length_replicate]
          obtain ⟨L7, hL7⟩ : ∃ L, L = k + j + 34 := ⟨_, rfl⟩
          have ml : (marked P Q).length = L7 := by rw [marked_len, pl, ql, hL7]
          have hL8 : L7 ≤ 100000 := by omega
          have pl2 : P.length ≤ 39000 := by omega
          have ql2 : Q.length ≤ 39000 := by omega
          rw [← hL7] at hwant
          rw [← hP] at hc1
          rw [← hQ] at hc2
          clear hP hQ R1 R2 HBl HLt HX HY
          have a1 : ByteArray.mk #[60, 60, 60, 60, 60, 60, 60, 10] ++ ByteArray.mk P.toArray = ⟨(mk7 60 ++ P).toArray⟩ := app_txt (mk7 60) P
          have a2 : ByteArray.mk (mk7 60 ++ P).toArray ++ ByteArray.mk #[10] = ⟨(mk7 60 ++ P ++ [10]).toArray⟩ := app_txt _ [10]
          have a3 : ByteArray.mk (mk7 60 ++ P ++ [10]).toArray ++ ByteArray.mk #[124, 124, 124, 124, 124, 124, 124, 10] = ⟨(mk7 60 ++ P ++ [10] ++ mk7 124).toArray⟩ := app_txt _ (mk7 124)
          have a4 : ByteArray.mk (mk7 60 ++ P ++ [10] ++ mk7 124).toArray ++ ByteArray.mk #[61, 61, 61, 61, 61, 61, 61, 10] = ⟨(mk7 60 ++ P ++ [10] ++ mk7 124 ++ mk7 61).toArray⟩ := app_txt _ (mk7 61)
          have a5 : ByteArray.mk (mk7 60 ++ P ++ [10] ++ mk7 124 ++ mk7 61).toArray ++ ByteArray.mk Q.toArray = ⟨(mk7 60 ++ P ++ [10] ++ mk7 124 ++ mk7 61 ++ Q).toArray⟩ := app_txt _ Q
          have a6 : ByteArray.mk (mk7 60 ++ P ++ [10] ++ mk7 124 ++ mk7 61 ++ Q).toArray ++ ByteArray.mk #[10] = ⟨(mk7 60 ++ P ++ [10] ++ mk7 124 ++ mk7 61 ++ Q ++ [10]).toArray⟩ := app_txt _ [10]
          have a7 : ByteArray.mk (mk7 60 ++ P ++ [10] ++ mk7 124 ++ mk7 61 ++ Q ++ [10]).toArray ++ ByteArray.mk #[62, 62, 62, 62, 62, 62, 62, 10] = ⟨(marked P Q).toArray⟩ := by
            rw [show marked P Q = mk7 60 ++ P ++ [10] ++ mk7 124 ++ mk7 61 ++ Q ++ [10] ++ mk7 62 by unfold marked; simp]
            exact app_txt _ (mk7 62)
          have z1 : (mk7 60 ++ P).length ≤ 100000 := by simp [mk7, pl]; omega
          have z2 : (mk7 60 ++ P ++ [10]).length ≤ 100000 := by simp [mk7, pl]; omega
          have z3 : (mk7 60 ++ P ++ [10] ++ mk7 124).length ≤ 100000 := by simp [mk7, pl]; omega
          have z4 : (mk7 60 ++ P ++ [10] ++ mk7 124 ++ mk7 61).length ≤ 100000 := by simp [mk7, pl]; omega
          have z5 : (mk7 60 ++ P ++ [10] ++ mk7 124 ++ mk7 61 ++ Q).length ≤ 100000 := by simp [mk7, pl, ql]; omega
          have z6 : (mk7 60 ++ P ++ [10] ++ mk7 124 ++ mk7 61 ++ Q ++ [10]).length ≤ 100000 := by simp [mk7, pl, ql]; omega
          generalize mk7 60 ++ P ++ [10] ++ mk7 124 ++ mk7 61 ++ Q ++ [10] = T6 at *
          generalize mk7 60 ++ P ++ [10] ++ mk7 124 ++ mk7 61 ++ Q = T5 at *
          generalize mk7 60 ++ P ++ [10] ++ mk7 124 ++ mk7 61 = T4 at *
          generalize mk7 60 ++ P ++ [10] ++ mk7 124 = T3 at *
          generalize mk7 60 ++ P ++ [10] = T2 at *
          generalize mk7 60 ++ P = T1 at *
          generalize marked P Q = T7 at *
          generalize want P Q = V at *
          have Hw := hide hwant
          clear hwant hL7 pl ql hd
          by_cases h65 : 65536 < L7
          · have dL : decide ((65536 : Int) < (L7 : Int)) = true := decide_eq_true (by omega)
            by_cases hxy : x < y
            · have dG : decide ((y : Int) < (x : Int)) = false := decide_eq_false (by omega)
              have HV := hide (show Q = V by rw [Hw.out]; rw [if_pos h65, if_pos hxy])
              clear Hw
              go_wp2_with fail
              obtain ⟨w5, hw5⟩ : ∃ z, z = wr := ⟨_, rfl⟩
              subst hw5
              have ra := (Row.fresh w5 tF #[.string ⟨#[102]⟩, .string ⟨P.toArray⟩]).alloc (.cells #[.string ⟨#[102]⟩, .string ⟨Q.toArray⟩] tF)
              have rb := Row.new (w5.alloc (.cells #[.string ⟨#[102]⟩, .string ⟨P.toArray⟩] tF)) (g := w5.heap.size + 1) tF (cs := #[.string ⟨#[102]⟩, .string ⟨Q.toArray⟩]) (l := [.string ⟨#[102]⟩, .string ⟨Q.toArray⟩]) (by simp) rfl
              have hbw := ((Below.refl w5.heap.size w5).alloc (Nat.le_refl _) (.cells #[.string ⟨#[102]⟩, .string ⟨P.toArray⟩] tF)).alloc (by simp) (.cells #[.string ⟨#[102]⟩, .string ⟨Q.toArray⟩] tF)
              refine (HB1.out _ _ 1 1 _ (row_fls [⟨[102], P⟩] ra) (row_fls [⟨[102], Q⟩] rb)).mono ?_
              rintro e w6 ⟨v, u, rfl, hv, hu, hb6⟩
              obtain ⟨A1, c1, rfl, hf⟩ := hv.fls
              obtain ⟨A2, c2, rfl, hs⟩ := hu.vs
              obtain ⟨b, o, f, rfl, hlt, hff, _, _, t1⟩ := hf.at (w' := w6) (Below.refl _ _) (k := 0) (by simp)
              obtain rfl : (⟨[102], V⟩ : Fl) = f := Option.some.inj hff
              simp only [Nat.zero_mul, Nat.add_zero] at t1
              have hBz := Hb.out.trans ((hbw.trans (hb6.mono hbw.size)).mono Hb.out.size)
              have hb9 : Below w6.heap.size w6 (w6.alloc (.cells #[.string ⟨#[102]⟩] tS)) := (Below.refl _ w6).alloc (Nat.le_refl _) _
              obtain ⟨A9, c9, e9, L9⟩ := (OwT.lit w6 w6.heap.size tS [[102]] #[.string ⟨#[102]⟩] rfl (Nat.le_refl _) (by decide)).vs
              injection e9 with e9a e9b e9c
              subst e9a e9c
              have HT := hide (texts_any [[102]] [[102]] A2 _ c2 _ _ _ _ (Lw.Vs.below hs hb9) L9 (by decide))
              rw [decide_eq_true rfl] at HT
              have hvv : (V == V) = true := beq_self_eq_true V
              have HBz := hide (hBz.trans (hb9.mono hBz.size))
              rw [← HV.out] at t1
              clear ra rb hbw HB1 hv hu hf hff hs hb6 hBz hb9 L9 Hb hlt HV
              go_wp2_with fail
              refine HT.out.mono ?_
              rintro e w7 ⟨rfl, hb7⟩
              have HB7 := hide (HBz.out.trans (hb7.mono HBz.out.size))
              clear hb7 HT HBz
              go_wp2
              go_ret
              exact ⟨rfl, HB7.out⟩
            · have dG : decide ((y : Int) < (x : Int)) = true := decide_eq_true (by omega)
              have HV := hide (show P = V by rw [Hw.out]; rw [if_pos h65, if_neg hxy])
              clear Hw
              go_wp2_with fail
              obtain ⟨w5, hw5⟩ : ∃ z, z = wr := ⟨_, rfl⟩
              subst hw5
              have ra := (Row.fresh w5 tF #[.string ⟨#[102]⟩, .string ⟨P.toArray⟩]).alloc (.cells #[.string ⟨#[102]⟩, .string ⟨Q.toArray⟩] tF)
              have rb := Row.new (w5.alloc (.cells #[.string ⟨#[102]⟩, .string ⟨P.toArray⟩] tF)) (g := w5.heap.size + 1) tF (cs := #[.string ⟨#[102]⟩, .string ⟨Q.toArray⟩]) (l := [.string ⟨#[102]⟩, .string ⟨Q.toArray⟩]) (by simp) rfl
              have hbw := ((Below.refl w5.heap.size w5).alloc (Nat.le_refl _) (.cells #[.string ⟨#[102]⟩, .string ⟨P.toArray⟩] tF)).alloc (by simp) (.cells #[.string ⟨#[102]⟩, .string ⟨Q.toArray⟩] tF)
              refine (HB1.out _ _ 1 1 _ (row_fls [⟨[102], P⟩] ra) (row_fls [⟨[102], Q⟩] rb)).mono ?_
              rintro e w6 ⟨v, u, rfl, hv, hu, hb6⟩
              obtain ⟨A1, c1, rfl, hf⟩ := hv.fls
              obtain ⟨A2, c2, rfl, hs⟩ := hu.vs
              obtain ⟨b, o, f, rfl, hlt, hff, _, _, t1⟩ := hf.at (w' := w6) (Below.refl _ _) (k := 0) (by simp)
              obtain rfl : (⟨[102], V⟩ : Fl) = f := Option.some.inj hff
              simp only [Nat.zero_mul, Nat.add_zero] at t1
              have hBz := Hb.out.trans ((hbw.trans (hb6.mono hbw.size)).mono Hb.out.size)
              have hb9 : Below w6.heap.size w6 (w6.alloc (.cells #[.string ⟨#[102]⟩] tS)) := (Below.refl _ w6).alloc (Nat.le_refl _) _
              obtain ⟨A9, c9, e9, L9⟩ := (OwT.lit w6 w6.heap.size tS [[102]] #[.string ⟨#[102]⟩] rfl (Nat.le_refl _) (by decide)).vs
              injection e9 with e9a e9b e9c
              subst e9a e9c
              have HT := hide (texts_any [[102]] [[102]] A2 _ c2 _ _ _ _ (Lw.Vs.below hs hb9) L9 (by decide))
              rw [decide_eq_true rfl] at HT
              have hvv : (V == V) = true := beq_self_eq_true V
              have HBz := hide (hBz.trans (hb9.mono hBz.size))
              rw [← HV.out] at t1
              clear ra rb hbw HB1 hv hu hf hff hs hb6 hBz hb9 L9 Hb hlt HV
              go_wp2_with fail
              refine HT.out.mono ?_
              rintro e w7 ⟨rfl, hb7⟩
              have HB7 := hide (HBz.out.trans (hb7.mono HBz.out.size))
              clear hb7 HT HBz
              go_wp2
              go_ret
              exact ⟨rfl, HB7.out⟩
          · have dL : decide ((65536 : Int) < (L7 : Int)) = false := decide_eq_false (by omega)
            have HV := hide (show T7 = V by rw [Hw.out]; rw [if_neg h65])
            clear Hw
            go_wp2_with fail
            obtain ⟨w5, hw5⟩ : ∃ z, z = wr := ⟨_, rfl⟩
            subst hw5
            have ra := (Row.fresh w5 tF #[.string ⟨#[102]⟩, .string ⟨P.toArray⟩]).alloc (.cells #[.string ⟨#[102]⟩, .string ⟨Q.toArray⟩] tF)
            have rb := Row.new (w5.alloc (.cells #[.string ⟨#[102]⟩, .string ⟨P.toArray⟩] tF)) (g := w5.heap.size + 1) tF (cs := #[.string ⟨#[102]⟩, .string ⟨Q.toArray⟩]) (l := [.string ⟨#[102]⟩, .string ⟨Q.toArray⟩]) (by simp) rfl
            have hbw := ((Below.refl w5.heap.size w5).alloc (Nat.le_refl _) (.cells #[.string ⟨#[102]⟩, .string ⟨P.toArray⟩] tF)).alloc (by simp) (.cells #[.string ⟨#[102]⟩, .string ⟨Q.toArray⟩] tF)
            refine (HB1.out _ _ 1 1 _ (row_fls [⟨[102], P⟩] ra) (row_fls [⟨[102], Q⟩] rb)).mono ?_
            rintro e w6 ⟨v, u, rfl, hv, hu, hb6⟩
            obtain ⟨A1, c1, rfl, hf⟩ := hv.fls
            obtain ⟨A2, c2, rfl, hs⟩ := hu.vs
            obtain ⟨b, o, f, rfl, hlt, hff, _, _, t1⟩ := hf.at (w' := w6) (Below.refl _ _) (k := 0) (by simp)
            obtain rfl : (⟨[102], V⟩ : Fl) = f := Option.some.inj hff
            simp only [Nat.zero_mul, Nat.add_zero] at t1
            have hBz := Hb.out.trans ((hbw.trans (hb6.mono hbw.size)).mono Hb.out.size)
            have hb9 : Below w6.heap.size w6 (w6.alloc (.cells #[.string ⟨#[102]⟩] tS)) := (Below.refl _ w6).alloc (Nat.le_refl _) _
            obtain ⟨A9, c9, e9, L9⟩ := (OwT.lit w6 w6.heap.size tS [[102]] #[.string ⟨#[102]⟩] rfl (Nat.le_refl _) (by decide)).vs
            injection e9 with e9a e9b e9c
            subst e9a e9c
            have HT := hide (texts_any [[102]] [[102]] A2 _ c2 _ _ _ _ (Lw.Vs.below hs hb9) L9 (by decide))
            rw [decide_eq_true rfl] at HT
            have hvv : (V == V) = true := beq_self_eq_true V
            have HBz := hide (hBz.trans (hb9.mono hBz.size))
            rw [← HV.out] at t1
            clear ra rb hbw HB1 hv hu hf hff hs hb6 hBz hb9 L9 Hb hlt HV
            go_wp2_with fail
            refine HT.out.mono ?_
            rintro e w7 ⟨rfl, hb7⟩
            have HB7 := hide (HBz.out.trans (hb7.mono HBz.out.size))
            clear hb7 HT HBz
            go_wp2
            go_ret
            exact ⟨rfl, HB7.out⟩
theorem lawLong_any (x y n m : Nat) (w : World) (hx : x < 256) (hy : y < 256) (hn : n < 65536) (hm : m < 65536) :
    Calls Try.prog 4 #[.int .u8 (x : Int), .int .u8 (y : Int), .int .u16 (n : Int), .int .u16 (m : Int)] w fun e w' => e = .returned (.bool true) ∧ Below w.heap.size w w' := by
  by_cases h : x ≤ 10 ∨ y ≤ 10 ∨ x = y
  · exact long_no x y n m w h
  · exact long_yes x y n m w hx hy hn hm (fun e => h (.inl e)) (fun e => h (.inr (.inl e))) (fun e => h (.inr (.inr e)))
end Go.Proofs.Ytghnieddokhagaa.Tr
