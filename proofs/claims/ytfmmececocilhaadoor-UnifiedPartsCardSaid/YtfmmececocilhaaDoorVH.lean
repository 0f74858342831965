/-
  The statement UnifiedParts, walked.
-/
import Derived.Test.YtfmmececocilhaaDoorUX
import Derived.Test.YtfmmececocilhaaDoorUV
import Derived.Test.YtfmmececocilhaaDoorVF
import Derived.Test.YtfmmececocilhaaDoorVG
namespace Go.Proofs.YtfmmececocilhaaDoor.Un
open Go Go.RowKit Kt Lw Li Df Hu

/-- a text that isn't empty, in the forms that a walk asks -/
theorem txt_some {T : List UInt8} (h : T ≠ []) : (T == []) = false ∧ T.isEmpty = false ∧ ¬ (ByteArray.mk T.toArray = ByteArray.mk #[]) ∧ ((ByteArray.mk T.toArray).toList == (ByteArray.mk #[]).toList) = false := by
  refine ⟨by rw [beq_eq_false_iff_ne]; exact h, by rw [List.isEmpty_eq_false_iff]; exact h, fun k => h (by injection k with k; simpa using k), ?_⟩
  have := eq_txt T []
  rw [decide_eq_false h] at this
  exact this
set_option maxRecDepth 100000 in
set_option maxHeartbeats 4000000 in
theorem parts_small (L M : List Hk) (A A2 : Option Addr) (c c2 : Nat) (w : World) (hs : Hks w A c L) (hs2 : Hks w A2 c2 M) (hE : Env w) (hl : L.length ≤ 9223372036854775807) (hm : M.length ≤ 9223372036854775807) (hno : (fewU L && fewU M) = false) :
    Calls Tryd.prog 5 #[.slice A L.length c, .slice A2 M.length c2] w fun y w' => y = .returned (.bool true) ∧ Below w.heap.size w w' := by
  have HFw := hide (fun w1 (hb1 : Below w.heap.size w w1) => fewU_any L A c w1 (hs.keep hb1) hl)
  have HFm := hide (fun w1 (hb1 : Below w.heap.size w w1) => fewU_any M A2 c2 w1 (hs2.keep hb1) hm)
  have Haw := hide (awake_any w hE)
  obtain ⟨N, hN⟩ : ∃ N, N = L.length := ⟨_, rfl⟩
  rw [← hN] at HFw ⊢
  obtain ⟨K, hK⟩ : ∃ K, K = M.length := ⟨_, rfl⟩
  rw [← hK] at HFm ⊢
  generalize fewU L = f1 at *
  generalize fewU M = f2 at *
  clear hs hs2 hE hN hK hl hm
  cases f1 with
  | false =>
    clear hno
    go_enter Tryd.func5, Tryd.ntmps5
    go_wp2_with fail
    refine Haw.out.mono ?_
    rintro y w1 ⟨rfl, hb1⟩
    go_wp2_with fail
    refine (HFw.out w1 hb1).mono ?_
    rintro y w2 ⟨rfl, hb2⟩
    have hb3 := hb1.trans (hb2.mono hb1.size)
    clear hb1 hb2
    go_wp2_with fail
    refine (HFm.out w2 hb3).mono ?_
    rintro y w3 ⟨rfl, hb4⟩
    have hb5 := hb3.trans (hb4.mono hb3.size)
    clear hb3 hb4
    go_wp2
    go_ret
    exact ⟨rfl, hb5⟩
  | true =>
    obtain rfl : f2 = false := by simpa using hno
    clear hno
    go_enter Tryd.func5, Tryd.ntmps5
    go_wp2_with fail
    refine Haw.out.mono ?_
    rintro y w1 ⟨rfl, hb1⟩
    go_wp2_with fail
    refine (HFw.out w1 hb1).mono ?_
    rintro y w2 ⟨rfl, hb2⟩
    have hb3 := hb1.trans (hb2.mono hb1.size)
    clear hb1 hb2
    go_wp2_with fail
    refine (HFm.out w2 hb3).mono ?_
    rintro y w3 ⟨rfl, hb4⟩
    have hb5 := hb3.trans (hb4.mono hb3.size)
    clear hb3 hb4
    go_wp2
    go_ret
    exact ⟨rfl, hb5⟩
set_option maxRecDepth 100000 in
set_option maxHeartbeats 4000000 in
theorem lawParts_any (L M : List Hk) (A A2 : Option Addr) (c c2 : Nat) (w : World) (hs : Hks w A c L) (hs2 : Hks w A2 c2 M) (hE : Env w) (hl : L.length ≤ 9223372036854775807) (hm : M.length ≤ 9223372036854775807) :
    Calls Tryd.prog 5 #[.slice A L.length c, .slice A2 M.length c2] w fun y w' => y = .returned (.bool true) ∧ Below w.heap.size w w' := by
  cases hf : (fewU L && fewU M) with
  | false => exact parts_small L M A A2 c c2 w hs hs2 hE hl hm hf
  | true =>
  rw [Bool.and_eq_true] at hf
  obtain ⟨hf1, hf2⟩ := hf
  have Hs := hide hs
  have Hs2 := hide hs2
  have HE := hide (fun w' (hb : Below w.heap.size w w') => hE.keep hb)
  have HFw := hide (fun w1 (hb1 : Below w.heap.size w w1) => fewU_any L A c w1 (hs.keep hb1) hl)
  have HFm := hide (fun w1 (hb1 : Below w.heap.size w w1) => fewU_any M A2 c2 w1 (hs2.keep hb1) hm)
  rw [hf1] at HFw
  rw [hf2] at HFm
  have Haw := hide (awake_any w hE)
  have Hfit := hide (few_fit hf1)
  have Hfit2 := hide (few_fit hf2)
  have Hin := hide (fun h (hh : h ∈ L ++ M) => (show h.lines.length ≤ 100000 from by
    rcases List.mem_append.1 hh with hh | hh
    · have := ((few_short hf1).1 h hh).1
      unfold tooBig at this; omega
    · have := ((few_short hf2).1 h hh).1
      unfold tooBig at this; omega))
  have hN12 : L.length ≤ 12 := (few_short hf1).2.1
  have hM12 : M.length ≤ 12 := (few_short hf2).2.1
  have HPr := hide (fun w1 (hb1 : Below w.heap.size w w1) => print_any L A c w1 (hs.keep hb1) (hE.keep hb1) (by omega) (by have := Hfit.out.2.1; omega) Hfit.out.1)
  have HPm := hide (fun w1 (hb1 : Below w.heap.size w w1) => print_any M A2 c2 w1 (hs2.keep hb1) (hE.keep hb1) (by omega) (by have := Hfit2.out.2.1; omega) Hfit2.out.1)
  have HTl := hide (fun (h : prt L ≠ []) (k : prt M ≠ []) => parse_app (prt_tell h) (prt_tell k))
  have HTx := hide (fun (h : prt L ≠ []) => parse_x (prt_tell h) (prt M))
  have HLn := hide Hfit.out.2.2
  have HLm := hide Hfit2.out.2.2
  obtain ⟨T, hT⟩ : ∃ T, T = prt L := ⟨_, rfl⟩
  rw [← hT] at HPr HTl HTx HLn
  obtain ⟨U, hU⟩ : ∃ U, U = prt M := ⟨_, rfl⟩
  rw [← hU] at HPm HTl HTx HLm
  obtain ⟨N, hN⟩ : ∃ N, N = L.length := ⟨_, rfl⟩
  rw [← hN] at HFw HPr hN12 ⊢
  have HN := hide hN
  obtain ⟨K, hK⟩ : ∃ K, K = M.length := ⟨_, rfl⟩
  rw [← hK] at HFm HPm hM12 ⊢
  have HK := hide hK
  clear hs hs2 hE hN hK hl hm hf1 hf2 hT hU Hfit Hfit2
  go_enter Tryd.func5, Tryd.ntmps5
  go_wp2_with fail
  refine Haw.out.mono ?_
  rintro y w1 ⟨rfl, hb1⟩
  have Hb1 := hide hb1
  clear hb1 Haw
  go_wp2_with fail
  refine (HFw.out w1 Hb1.out).mono ?_
  rintro y w2 ⟨rfl, hb2⟩
  have Hb2 := hide (Hb1.out.trans (hb2.mono Hb1.out.size))
  clear hb2 HFw Hb1
  go_wp2_with fail
  refine (HFm.out w2 Hb2.out).mono ?_
  rintro y w3 ⟨rfl, hb3⟩
  have Hb3 := hide (Hb2.out.trans (hb3.mono Hb2.out.size))
  clear hb3 HFm Hb2
  go_wp2_with fail
  refine (HPr.out w3 Hb3.out).mono ?_
  rintro y w4 ⟨rfl, hb4⟩
  have Hb4 := hide (Hb3.out.trans (hb4.mono Hb3.out.size))
  clear hb4 HPr Hb3
  go_wp2_with fail
  refine (HPm.out w4 Hb4.out).mono ?_
  rintro y w5 ⟨rfl, hb5⟩
  have Hb5 := hide (Hb4.out.trans (hb5.mono Hb4.out.size))
  clear hb5 HPm Hb4
  by_cases hT : T = []
  · subst hT
    clear HTl HTx HLn HLm
    go_wp2
    go_ret
    exact ⟨rfl, Hb5.out⟩
  obtain ⟨q1, q2, q3, q4⟩ := txt_some hT
  by_cases hU : U = []
  · subst hU
    clear HTl HTx HLn HLm
    go_wp2
    go_ret
    exact ⟨rfl, Hb5.out⟩
  obtain ⟨p1, p2, p3, p4⟩ := txt_some hU
  have HP1 := hide (fun w1 (hb1 : Below w.heap.size w w1) => parse_any (T ++ U) w1 (HE.out w1 hb1) (by
    have := HLn.out
    have := HLm.out
    rw [List.length_append]; omega))
  have HP2 := hide (fun w1 (hb1 : Below w.heap.size w w1) => parse_any (T ++ ([120, 10] ++ U)) w1 (HE.out w1 hb1) (by
    have := HLn.out
    have := HLm.out
    simp only [List.length_append, List.length_cons, List.length_nil]; omega))
  rw [HTl.out hT hU] at HP1
  rw [HTx.out hT] at HP2
  have HCt := hide (fun w1 => count_any T w1 (by have := HLn.out; omega))
  obtain ⟨m, hm⟩ : ∃ m, m = (lns T).length := ⟨_, rfl⟩
  have hml : m ≤ 12000 := by
    rw [hm]
    exact Nat.le_trans (lns_len_le T) HLn.out
  rw [← hm] at HP2 HCt
  have ea1 := app_txt T U
  have ea2 := app_txt T [120, 10]
  have ea3 := app_txt (T ++ [120, 10]) U
  rw [List.append_assoc] at ea3
  have sz1 : (ByteArray.mk T.toArray).size ≤ 12000 := HLn.out
  have sz2 : (ByteArray.mk U.toArray).size ≤ 12000 := HLm.out
  have sz3 : (ByteArray.mk (T ++ [120, 10]).toArray).size ≤ 12002 := by
    have := HLn.out
    show (T ++ [120, 10]).length ≤ 12002
    rw [List.length_append]
    exact Nat.add_le_add_right this 2
  have sz4 : ¬ 9223372036854775807 < (ByteArray.mk T.toArray).size + 2 := by omega
  clear HTl HTx hm
  go_wp2_with fail
  refine (HP1.out w5 Hb5.out).mono ?_
  rintro y w6 ⟨v6, rfl, hv6, hb6⟩
  obtain ⟨A6, c6, rfl, hk6⟩ := hv6.hks
  have Hb6 := hide (Hb5.out.trans (hb6.mono Hb5.out.size))
  have Hk6 := hide hk6
  clear hb6 HP1 hv6 hk6 Hb5
  go_wp2_with fail
  refine (HP2.out w6 Hb6.out).mono ?_
  rintro y w7 ⟨v7, rfl, hv7, hb7⟩
  obtain ⟨A7, c7, rfl, _⟩ := hv7.hks
  have Hb7 := hide (Hb6.out.trans (hb7.mono Hb6.out.size))
  have Hk7 := hide (Hk6.out.keep hb7)
  clear hb7 HP2 hv7 Hk6 Hb6
  simp only [← HN.out, ← HK.out, List.length_nil] at Hk7 ⊢
  have e0 := OwS.lit0 w7 w7.heap.size (Nat.le_refl _)
  have hb8 : Below w7.heap.size w7 (w7.alloc (.cells #[] tH)) := (Below.refl _ w7).alloc (Nat.le_refl _) _
  have hA1 : N + K ≤ 1000000000 := by omega
  have Hk7L := hide (Hs.out.keep Hb7.out)
  have Hk7M := hide (Hs2.out.keep Hb7.out)
  have Hso := hide (fun (v : Value) (w8 : World) (h : OwS w8 w7.heap.size v (L ++ M)) => h.hks)
  have HSm := hide (fun (A8 : Option Addr) (c8 : Nat) (w8 : World) (h : Hks w8 A8 c8 (L ++ M)) (hk : Hks w8 A6 c6 (L ++ M)) => hsame_any (L ++ M) A6 A8 c6 c8 w8 hk h (by simp only [List.length_append, ← HN.out, ← HK.out]; omega) Hin.out)
  simp only [List.length_append, ← HN.out, ← HK.out] at Hso HSm
  clear ea1 ea2 ea3
  go_wp2_with (first
    | (refine wpList_catSg rfl (.tmp 67) (.tmp 68) rfl w7 _ [] L A c rfl (by rw [← HN.out]; rfl) e0 Hk7L.out (by simp only [List.length_nil, ← HN.out]; omega) hb8 ?_
       intro v9 w9 hown9 hb9)
    | (refine wpList_catSg rfl (.tmp 69) (.tmp 70) rfl w7 _ L M A2 c2 rfl (by rw [← HK.out]; rfl) hown9 Hk7M.out (by simp only [← HN.out, ← HK.out]; omega) hb9 ?_
       intro v10 w10 hown10 hb10
       obtain ⟨A10, c10, rfl, hk10⟩ := Hso.out v10 w10 hown10))
  refine (HSm.out A10 c10 w10 hk10 (Hk7.out.keep hb10)).mono ?_
  rintro y w11 ⟨rfl, hb11⟩
  have Hb11 := hide (Hb7.out.trans ((hb10.trans (hb11.mono hb10.size)).mono Hb7.out.size))
  have HC := hide (HCt.out w11)
  clear hb9 hown9 hb10 hown10 hb11 hk10 HSm Hso Hk7 Hk7L Hk7M e0 hb8
  go_wp2_with fail
  refine HC.out.mono ?_
  rintro y w12 ⟨rfl, hb12⟩
  have Hb12 := hide (Hb11.out.trans (hb12.mono Hb11.out.size))
  clear hb12
  go_wp2
  go_ret
  exact ⟨rfl, Hb12.out⟩
end Go.Proofs.YtfmmececocilhaaDoor.Un
