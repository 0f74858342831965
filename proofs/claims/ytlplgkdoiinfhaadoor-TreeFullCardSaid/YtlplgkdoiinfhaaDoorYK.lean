/-
  A tree has as many files as it may have, and texts as long as they may be: the law TreeFull.
-/
import Derived.BigQuiet
import Derived.Test.YtlplgkdoiinfhaaDoorYA
import Derived.Test.YtlplgkdoiinfhaaDoorTG
namespace Go.Proofs.YtlplgkdoiinfhaaDoor.Tr
open Go Go.RowKit Kt Lw Li Lx Df Wr

set_option maxRecDepth 100000 in
theorem make_bytes (m : Nat) (hm : m ≤ 1000000) (w : World) : (Instr.makeSlice 25 (.int .i64 (m : Int)) (.int .i64 (m : Int))).run Tryd.prog w = .ok (.slice (some ⟨w.heap.size, 0, none⟩) m m) (w.alloc (.cells (u8s (List.replicate m 0)).toArray 5)) := by
  obtain ⟨i0, hi0, hz0, hz1, hz2⟩ := info_parts info8
  have hC : madeCells (Value.int .u8 0).cells m = (u8s (List.replicate m 0)).toArray := by
    apply Array.ext
    · simp [madeCells, u8s, Value.cells]
    · intro i h1 h2
      simp [madeCells, u8s, Value.cells, Nat.mod_one]
  have hr := run_makeSlice (P := Tryd.prog) w 25 5 i0 (.int .u8 0) Tryd.underlying25 hi0 hz0 .i64 .i64 (m : Int) (m : Int) (by omega) (Int.le_refl _) (by rw [hz1]; simp; omega) (by rw [hz2]; omega) (by omega)
  rw [hz1, Int.toNat_natCast, Nat.mul_one, hC] at hr
  exact hr
theorem full_snoc (k : Nat) : full (k + 1) = full k ++ [⟨dig k, []⟩] := by
  unfold full
  rw [List.range_succ, List.map_append]; rfl
theorem dig_cells (k : Nat) (hk : k ≤ 1100) : #[Value.int .u8 (48 + (k : Int) / 100), Value.int .u8 (48 + (k : Int) / 10 % 10), Value.int .u8 (48 + (k : Int) % 10)] = (u8s (dig k)).toArray := by
  have h1 := u8 (48 + k / 100) (by omega)
  have h2 := u8 (48 + k / 10 % 10) (by omega)
  have h3 := u8 (48 + k % 10) (by omega)
  unfold dig u8s
  simp only [List.map_cons, List.map_nil, h1, h2, h3]
  congr 2 <;> simp
set_option maxRecDepth 100000 in
theorem dig_conv (k : Nat) (hk : k ≤ 1100) (w : World) : (convert 25 9 (.slice (some ⟨w.heap.size, 0, none⟩) 3 3)).run Tryd.prog (w.alloc (.cells #[.int .u8 (48 + (k : Int) / 100), .int .u8 (48 + (k : Int) / 10 % 10), .int .u8 (48 + (k : Int) % 10)] 5)) =
    .ok (.string ⟨(dig k).toArray⟩) (w.alloc (.cells #[.int .u8 (48 + (k : Int) / 100), .int .u8 (48 + (k : Int) / 10 % 10), .int .u8 (48 + (k : Int) % 10)] 5)) :=
  (Own.lit w w.heap.size 5 (dig k) _ (dig_cells k hk) (Nat.le_refl _) (by show 3 ≤ _; unfold maxLen; omega)).text 25 9 5 Tryd.underlying25 Tryd.underlying5 Tryd.underlying9
set_option maxRecDepth 100000 in
theorem text_conv (x : Bs) (m : Nat) (hm : x.length = m) (hl : m ≤ 1000000) (w : World) : (convert 25 9 (.slice (some ⟨w.heap.size, 0, none⟩) m m)).run Tryd.prog (w.alloc (.cells (u8s x).toArray 5)) = .ok (.string ⟨x.toArray⟩) (w.alloc (.cells (u8s x).toArray 5)) := by
  subst hm
  exact (Own.lit w w.heap.size 5 x _ rfl (Nat.le_refl _) (by unfold maxLen; omega)).text 25 9 5 Tryd.underlying25 Tryd.underlying5 Tryd.underlying9
set_option maxRecDepth 100000 in
set_option maxHeartbeats 4000000 in
theorem lawFull_any (a b : Nat) (w : World) (hE : Env w) (ha : a < 256) (hb : b < 256) :
    Calls Tryd.prog 6 #[.int .u8 (a : Int), .int .u8 (b : Int)] w fun y w' => y = .returned (.bool true) ∧ Below w.heap.size w w' := by
  have HE := hide hE
  have HW := hide (wake_any w hE)
  obtain ⟨n, hn⟩ : ∃ n, n = 990 + a % 16 := ⟨_, rfl⟩
  obtain ⟨m, hm⟩ : ∃ m, m = 65530 + b % 12 := ⟨_, rfl⟩
  have hn1 : 990 ≤ n := by omega
  have hn2 : n ≤ 1005 := by omega
  have hm1 : m ≤ 65541 := by omega
  have hna : (990 : Int) + (a : Int) % 16 = (n : Int) := by omega
  have hmb : (65530 : Int) + (b : Int) % 12 = (m : Int) := by omega
  clear hE
  go_enter Tryd.func6, Tryd.ntmps6
  go_wp2_with fail
  refine HW.out.mono ?_
  rintro y w1 ⟨rfl, hb1⟩
  have Hb1 := hide hb1
  clear hb1 HW hn hm
  go_wp2
  go_loopw [7, 8] (fun s i wr => ∃ (k : Nat) (v0 : Value), v0 = s ∧ k ≤ n ∧ i = .int .i64 k ∧ OwF wr w.heap.size v0 (full k) ∧ Below w.heap.size w wr) (fun _ i _ => n - (intOf i).toNat)
  case atStart => exact ⟨0, _, rfl, Nat.zero_le _, rfl, OwF.nil _ _, Hb1.out⟩
  case round =>
    obtain ⟨k, v, rfl, hk, rfl, hown, hb⟩ := hrel
    clear Hb1
    have Hb := hide hb
    have Hown := hide hown
    clear hb hown
    by_cases hlt : k < n
    · have hcv := dig_conv k (by omega) wr
      have HownA := hide (Hown.out.keep ((Below.refl _ wr).alloc (Nat.le_refl _) (.cells #[.int .u8 (48 + (k : Int) / 100), .int .u8 (48 + (k : Int) / 10 % 10), .int .u8 (48 + (k : Int) % 10)] 5)))
      have HbA := hide (Hb.out.alloc Hb.out.size (.cells #[.int .u8 (48 + (k : Int) / 100), .int .u8 (48 + (k : Int) / 10 % 10), .int .u8 (48 + (k : Int) % 10)] 5))
      obtain ⟨w2, hw2⟩ : ∃ w2, wr.alloc (.cells #[.int .u8 (48 + (k : Int) / 100), .int .u8 (48 + (k : Int) / 10 % 10), .int .u8 (48 + (k : Int) % 10)] 5) = w2 := ⟨_, rfl⟩
      rw [hw2] at hcv HownA HbA
      have HL := hide (show (full k).length + 1 ≤ 1000000000 by rw [full_len]; omega)
      obtain ⟨l, hl⟩ : ∃ l, l = dig k := ⟨_, rfl⟩
      rw [← hl] at hcv
      have Hl := hide hl
      clear hl Hb Hown
      go_wp2_with (refine wpList_pushF rfl (.tmp 27) (.tmp 44) rfl w.heap.size w v (full k) ⟨l, []⟩ _ rfl rfl rfl HownA.out HL.out HbA.out HbA.out.size ?_; intro v1 w5 hown1 hb5 _)
      exact ⟨⟨k + 1, _, rfl, by omega, by go_num, by rw [full_snoc, ← Hl.out]; exact hown1, hb5⟩, by simp [intOf]; omega⟩
    · obtain rfl : k = n := by omega
      obtain ⟨A1, c1, rfl, hfl⟩ := Hown.out.fls
      obtain ⟨x, hx⟩ : ∃ x : Bs, x = List.replicate m 0 := ⟨_, rfl⟩
      have hxl : x.length = m := by rw [hx, List.length_replicate]
      have hmk := make_bytes m (by omega) wr
      have hcv := text_conv x m hxl (by omega) wr
      rw [← hx] at hmk
      have ho := (Below.refl _ wr).alloc (Nat.le_refl _) (.cells (u8s x).toArray 5)
      have E_2 := hide ((HE.out.keep Hb.out).keep ho)
      have B_2 := hide (Hb.out.alloc Hb.out.size (.cells (u8s x).toArray 5))
      have F_2 := hide (hfl.keep ho)
      have hgo := full_go (n := k) (by omega)
      have HPa := hide (fun (wz : World) (hE : Env wz) => tput_any [] ⟨[97], x⟩ none 0 wz (Fls.nil _ _ _) hE.most (by simp) (show [97].length ≤ _ by simp) (q := none) rfl)
      have HRt := hide (fun (wz : World) (h : Fls wz A1 c1 (full k)) (hE : Env wz) => tright_any (full k) A1 c1 wz h hE.most (fun f hf => by have := (go_above hgo f hf).2.1; have := (can_lt this).2; omega) (by rw [full_len]; omega))
      have HPz := hide (fun (wz : World) (h : Fls wz A1 c1 (full k)) (hE : Env wz) => tput_any (full k) ⟨[122], []⟩ A1 c1 wz h hE.most (by rw [full_len]; omega) (show [122].length ≤ _ by simp) hgo)
      have HP1 := hide (fun (wz : World) (h : Fls wz A1 c1 (full k)) (hE : Env wz) => tput_any (full k) ⟨[48, 48, 49], [120]⟩ A1 c1 wz h hE.most (by rw [full_len]; omega) (show [48, 48, 49].length ≤ _ by simp) hgo)
      have h1 := put_a x
      have h2 := full_right (n := k) (by omega)
      have h3 := put_z (n := k)
      have h4 : k ≤ 1000 → (put (full k) ⟨[48, 48, 49], [120]⟩).2 = 0 := fun h => put_one h (by omega)
      have hfk := full_len k
      rw [hxl] at h1
      have Hx := hide hxl
      rw [h2] at HRt
      rw [h3] at HPz
      rw [h1] at HPa
      rw [hfk] at HRt HPz HP1 ⊢
      have Hk4 := hide h4
      generalize (put (full k) ⟨[48, 48, 49], [120]⟩).2 = e4 at *
      generalize (put (full k) ⟨[48, 48, 49], [120]⟩).1 = X4 at *
      generalize (put (full k) ⟨[122], []⟩).1 = X3 at *
      generalize (put [] ⟨[97], x⟩).1 = X1 at *
      generalize full k = T at *
      clear hfl hx ho hgo h1 h2 h3 h4 hfk Hb Hown HE
      obtain ⟨w2, hw2⟩ : ∃ w2, w2 = wr.alloc (.cells (u8s x).toArray 5) := ⟨_, rfl⟩
      rw [← hw2] at hcv hmk E_2 B_2 F_2
      clear hw2
      by_cases hm6 : m ≤ 65536
      · rw [if_pos hm6] at HPa
        have k1 : decide ((x.length : Int) ≤ 65536) = true := decide_eq_true (by omega)
        have k2 : decide (x.length ≤ 65536) = true := decide_eq_true (by omega)
        clear hm6 hxl
        go_wp2_with fail
        refine (HPa.out w2 E_2.out).mono ?_
        rintro y w3 ⟨v3, rfl, hown3, hb3⟩
        obtain ⟨A3, c3, rfl, _⟩ := hown3.fls
        have E_3 := hide (E_2.out.keep hb3)
        have B_3 := hide (B_2.out.trans (hb3.mono B_2.out.size))
        have F_3 := hide (F_2.out.keep hb3)
        clear hb3 E_2 B_2 F_2 hown3 HPa hcv hmk
        go_wp2_with fail
        refine (HRt.out w3 F_3.out E_3.out).mono ?_
        rintro y w4 ⟨rfl, hb4⟩
        have E_4 := hide (E_3.out.keep hb4)
        have B_4 := hide (B_3.out.trans (hb4.mono B_3.out.size))
        have F_4 := hide (F_3.out.keep hb4)
        clear hb4 E_3 B_3 F_3 HRt
        by_cases hk1 : k ≤ 1000
        · have k3 : decide ((k : Int) ≤ 1000) = true := decide_eq_true (by omega)
          have k4 : decide (k ≤ 1000) = true := decide_eq_true hk1
          rw [Hk4.out hk1] at HP1
          clear Hk4 hk1
          by_cases hk2 : k < 1000
          · rw [if_pos hk2] at HPz
            have k5 : decide ((k : Int) < 1000) = true := decide_eq_true (by omega)
            have k6 : decide (k < 1000) = true := decide_eq_true hk2
            clear hk2
            go_wp2_with fail
            refine (HPz.out w4 F_4.out E_4.out).mono ?_
            rintro y w5 ⟨v5, rfl, hown5, hb5⟩
            obtain ⟨A5, c5, rfl, _⟩ := hown5.fls
            have E_5 := hide (E_4.out.keep hb5)
            have B_5 := hide (B_4.out.trans (hb5.mono B_4.out.size))
            have F_5 := hide (F_4.out.keep hb5)
            clear hb5 E_4 B_4 F_4 hown5 HPz
            go_wp2_with fail
            refine (HP1.out w5 F_5.out E_5.out).mono ?_
            rintro y w6 ⟨v6, rfl, hown6, hb6⟩
            obtain ⟨A6, c6, rfl, _⟩ := hown6.fls
            have E_6 := hide (E_5.out.keep hb6)
            have B_6 := hide (B_5.out.trans (hb6.mono B_5.out.size))
            have F_6 := hide (F_5.out.keep hb6)
            clear hb6 E_5 B_5 F_5 hown6 HP1
            go_wp2
            go_ret
            exact ⟨by simp, B_6.out⟩
          · rw [if_neg hk2] at HPz
            have k5 : decide ((k : Int) < 1000) = false := decide_eq_false (by omega)
            have k6 : decide (k < 1000) = false := decide_eq_false hk2
            clear hk2
            go_wp2_with fail
            refine (HPz.out w4 F_4.out E_4.out).mono ?_
            rintro y w5 ⟨v5, rfl, hown5, hb5⟩
            obtain ⟨A5, c5, rfl, _⟩ := hown5.fls
            have E_5 := hide (E_4.out.keep hb5)
            have B_5 := hide (B_4.out.trans (hb5.mono B_4.out.size))
            have F_5 := hide (F_4.out.keep hb5)
            clear hb5 E_4 B_4 F_4 hown5 HPz
            go_wp2_with fail
            refine (HP1.out w5 F_5.out E_5.out).mono ?_
            rintro y w6 ⟨v6, rfl, hown6, hb6⟩
            obtain ⟨A6, c6, rfl, _⟩ := hown6.fls
            have E_6 := hide (E_5.out.keep hb6)
            have B_6 := hide (B_5.out.trans (hb6.mono B_5.out.size))
            have F_6 := hide (F_5.out.keep hb6)
            clear hb6 E_5 B_5 F_5 hown6 HP1
            go_wp2
            go_ret
            exact ⟨by simp, B_6.out⟩
        · have k3 : decide ((k : Int) ≤ 1000) = false := decide_eq_false (by omega)
          have k4 : decide (k ≤ 1000) = false := decide_eq_false hk1
          clear hk1
          go_wp2
          go_ret
          exact ⟨by simp, B_4.out⟩
      · rw [if_neg hm6] at HPa
        have k1 : decide ((x.length : Int) ≤ 65536) = false := decide_eq_false (by omega)
        have k2 : decide (x.length ≤ 65536) = false := decide_eq_false (by omega)
        clear hm6 hxl
        go_wp2_with fail
        refine (HPa.out w2 E_2.out).mono ?_
        rintro y w3 ⟨v3, rfl, hown3, hb3⟩
        obtain ⟨A3, c3, rfl, _⟩ := hown3.fls
        have E_3 := hide (E_2.out.keep hb3)
        have B_3 := hide (B_2.out.trans (hb3.mono B_2.out.size))
        have F_3 := hide (F_2.out.keep hb3)
        clear hb3 E_2 B_2 F_2 hown3 HPa hcv hmk
        go_wp2_with fail
        refine (HRt.out w3 F_3.out E_3.out).mono ?_
        rintro y w4 ⟨rfl, hb4⟩
        have E_4 := hide (E_3.out.keep hb4)
        have B_4 := hide (B_3.out.trans (hb4.mono B_3.out.size))
        have F_4 := hide (F_3.out.keep hb4)
        clear hb4 E_3 B_3 F_3 HRt
        by_cases hk1 : k ≤ 1000
        · have k3 : decide ((k : Int) ≤ 1000) = true := decide_eq_true (by omega)
          have k4 : decide (k ≤ 1000) = true := decide_eq_true hk1
          rw [Hk4.out hk1] at HP1
          clear Hk4 hk1
          by_cases hk2 : k < 1000
          · rw [if_pos hk2] at HPz
            have k5 : decide ((k : Int) < 1000) = true := decide_eq_true (by omega)
            have k6 : decide (k < 1000) = true := decide_eq_true hk2
            clear hk2
            go_wp2_with fail
            refine (HPz.out w4 F_4.out E_4.out).mono ?_
            rintro y w5 ⟨v5, rfl, hown5, hb5⟩
            obtain ⟨A5, c5, rfl, _⟩ := hown5.fls
            have E_5 := hide (E_4.out.keep hb5)
            have B_5 := hide (B_4.out.trans (hb5.mono B_4.out.size))
            have F_5 := hide (F_4.out.keep hb5)
            clear hb5 E_4 B_4 F_4 hown5 HPz
            go_wp2_with fail
            refine (HP1.out w5 F_5.out E_5.out).mono ?_
            rintro y w6 ⟨v6, rfl, hown6, hb6⟩
            obtain ⟨A6, c6, rfl, _⟩ := hown6.fls
            have E_6 := hide (E_5.out.keep hb6)
            have B_6 := hide (B_5.out.trans (hb6.mono B_5.out.size))
            have F_6 := hide (F_5.out.keep hb6)
            clear hb6 E_5 B_5 F_5 hown6 HP1
            go_wp2
            go_ret
            exact ⟨by simp, B_6.out⟩
          · rw [if_neg hk2] at HPz
            have k5 : decide ((k : Int) < 1000) = false := decide_eq_false (by omega)
            have k6 : decide (k < 1000) = false := decide_eq_false hk2
            clear hk2
            go_wp2_with fail
            refine (HPz.out w4 F_4.out E_4.out).mono ?_
            rintro y w5 ⟨v5, rfl, hown5, hb5⟩
            obtain ⟨A5, c5, rfl, _⟩ := hown5.fls
            have E_5 := hide (E_4.out.keep hb5)
            have B_5 := hide (B_4.out.trans (hb5.mono B_4.out.size))
            have F_5 := hide (F_4.out.keep hb5)
            clear hb5 E_4 B_4 F_4 hown5 HPz
            go_wp2_with fail
            refine (HP1.out w5 F_5.out E_5.out).mono ?_
            rintro y w6 ⟨v6, rfl, hown6, hb6⟩
            obtain ⟨A6, c6, rfl, _⟩ := hown6.fls
            have E_6 := hide (E_5.out.keep hb6)
            have B_6 := hide (B_5.out.trans (hb6.mono B_5.out.size))
            have F_6 := hide (F_5.out.keep hb6)
            clear hb6 E_5 B_5 F_5 hown6 HP1
            go_wp2
            go_ret
            exact ⟨by simp, B_6.out⟩
        · have k3 : decide ((k : Int) ≤ 1000) = false := decide_eq_false (by omega)
          have k4 : decide (k ≤ 1000) = false := decide_eq_false hk1
          clear hk1
          go_wp2
          go_ret
          exact ⟨by simp, B_4.out⟩
end Go.Proofs.YtlplgkdoiinfhaaDoor.Tr
