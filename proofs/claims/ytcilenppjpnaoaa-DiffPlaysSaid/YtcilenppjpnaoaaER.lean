/-
  The statement DiffRight, walked.
-/
import Derived.Test.YtcilenppjpnaoaaEQ
namespace Go.Proofs.Ytcilenppjpnaoaa.Df
open Go Go.RowKit Kt Lw Li

theorem size_few : ∀ L : List Ed, (∀ e ∈ L, e.pos ≤ 1048576 ∧ e.del ≤ 1048576 ∧ e.ins.length ≤ 20) → size L ≤ L.length * 1048596
  | [], _ => by simp [size]
  | e :: l, h => by
    have h1 := h e (by simp)
    have h2 := size_few l (fun e' he' => h e' (by simp [he']))
    rw [size, List.length_cons]
    omega
set_option maxHeartbeats 1000000 in
set_option maxRecDepth 100000 in
theorem size_wide (L : List Ed) (A : Option Addr) (c : Nat) (w : World) (hs : Es w A c L) (hn : L.length ≤ 1000000) (hz : size L ≤ 1000000000) :
    Calls Try.prog 20 #[.slice A L.length c] w fun y w' => y = .returned (.int .i64 (size L)) ∧ Below w.heap.size w w' := by
  have Hs := hide hs
  obtain ⟨N, hN⟩ : ∃ N, N = L.length := ⟨_, rfl⟩
  rw [← hN] at hn ⊢
  have HN := hide hN
  have Hz := hide hz
  clear hs hN hz
  go_enter Try.func20, Try.ntmps20
  go_wp2
  go_loopw [3, 8] (fun s i wr => ∃ k : Nat, k ≤ N ∧ i = .int .i64 k ∧ s = .int .i64 (size (L.take k)) ∧ Below w.heap.size w wr) (fun _ i _ => N - (intOf i).toNat)
  case atStart => exact ⟨0, Nat.zero_le _, rfl, by simp [size], Below.refl _ _⟩
  case round =>
    obtain ⟨k, hk, rfl, rfl, hb⟩ := hrel
    have Hb := hide hb
    clear hb
    by_cases hlt : k < N
    · obtain ⟨b, o, e, A', c', rfl, hke, ⟨c0, c1, c2⟩, hv⟩ := Hs.out.at Hb.out (k := k) (by have := HN.out; omega)
      have Hsn := hide (size_snoc L k e hke)
      have hb1 := size_take L (k + 1)
      have hb0 := size_pos (L.take k)
      rw [Hsn.out] at hb1
      have hz := Hz.out
      obtain ⟨m, hm⟩ : ∃ m : Int, (if e.del < 0 then 0 else e.del) = m := ⟨_, rfl⟩
      have Hm := hide (show max 0 e.del = m by rw [← hm]; split <;> omega)
      rw [Hm.out] at hb1
      have hm0 : 0 ≤ m := by rw [← hm]; split <;> omega
      generalize size (L.take k) = q at *
      have hb2 : m + e.ins.length ≤ 1000000000 := by omega
      have hb3 : q + (m + e.ins.length) ≤ 1000000000 := by omega
      clear hz hb1 hke hv
      go_wp2
      exact ⟨⟨k + 1, by omega, by go_num, by rw [Hsn.out, Hm.out], Hb.out.alloc Hb.out.size _⟩, by simp [intOf]; omega⟩
    · obtain rfl : k = N := by omega
      go_wp2
      go_ret
      exact ⟨by rw [HN.out, List.take_length]; rfl, Hb.out⟩

set_option maxHeartbeats 1000000 in
set_option maxRecDepth 100000 in
theorem lawRight_any (n : Int) (L : List Ed) (A : Option Addr) (c : Nat) (w : World) (hs : Es w A c L) (hl : L.length ≤ 9223372036854775807) :
    Calls Try.prog 5 #[.int .i64 n, .slice A L.length c] w fun y w' => y = .returned (.bool true) ∧ Below w.heap.size w w' := by
  have Hs := hide hs
  have Hl := hide hl
  cases hf : fewL L with
  | false =>
    have Hf := hide hf
    clear hf hs hl
    go_enter Try.func5, Try.ntmps5
    go_wp2_with fail
    refine (awake_any w).mono ?_
    rintro y w1 ⟨rfl, hb1⟩
    have Hs1 := hide (Hs.out.keep hb1)
    have Hb1 := hide hb1
    clear hb1
    go_wp2_with fail
    refine (few_any L A c w1 Hs1.out Hl.out).mono ?_
    rintro y w2 ⟨rfl, hb2⟩
    have Hb2 := hide (Hb1.out.trans (hb2.mono Hb1.out.size))
    clear hb2
    rw [Hf.out]
    go_wp2
    go_ret
    exact ⟨rfl, Hb2.out⟩
  | true =>
    have Hf := hide hf
    obtain ⟨hfe, hf20⟩ := fewL_spec hf
    have hsz := size_few L hfe
    have hsz2 : size L ≤ 30000000 := by omega
    have Hsz := hide hsz2
    obtain ⟨N, hN⟩ : ∃ N, N = L.length := ⟨_, rfl⟩
    have HN := hide hN
    have hN20 : N ≤ 20 := by omega
    have Hfe := hide hfe
    clear hf hfe hsz hsz2 hs hl hf20
    by_cases hn0 : n < -1099511627776
    · rw [← hN]
      have dn : decide (n < -1099511627776) = true := decide_eq_true hn0
      clear hN
      go_enter Try.func5, Try.ntmps5
      go_wp2_with fail
      refine (awake_any w).mono ?_
      rintro y w1 ⟨rfl, hb1⟩
      have Hs1 := hide (Hs.out.keep hb1)
      have Hb1 := hide hb1
      clear hb1
      go_wp2_with fail
      rw [HN.out]
      refine (few_any L A c w1 Hs1.out Hl.out).mono ?_
      rintro y w2 ⟨rfl, hb2⟩
      have Hb2 := hide (Hb1.out.trans (hb2.mono Hb1.out.size))
      clear hb2
      rw [Hf.out]
      go_wp2
      go_ret
      exact ⟨rfl, Hb2.out⟩
    by_cases hn1 : 1099511627776 < n
    · rw [← hN]
      have dn : decide (n < -1099511627776) = false := decide_eq_false hn0
      have dn1 : decide (1099511627776 < n) = true := decide_eq_true hn1
      clear hN
      go_enter Try.func5, Try.ntmps5
      go_wp2_with fail
      refine (awake_any w).mono ?_
      rintro y w1 ⟨rfl, hb1⟩
      have Hs1 := hide (Hs.out.keep hb1)
      have Hb1 := hide hb1
      clear hb1
      go_wp2_with fail
      rw [HN.out]
      refine (few_any L A c w1 Hs1.out Hl.out).mono ?_
      rintro y w2 ⟨rfl, hb2⟩
      have Hb2 := hide (Hb1.out.trans (hb2.mono Hb1.out.size))
      clear hb2
      rw [Hf.out]
      go_wp2
      go_ret
      exact ⟨rfl, Hb2.out⟩
    have dn : decide (n < -1099511627776) = false := decide_eq_false hn0
    have dn1 : decide (1099511627776 < n) = false := decide_eq_false hn1
    have hn0' : -1099511627776 ≤ n := by omega
    have hn1' : n ≤ 1099511627776 := by omega
    rw [← hN]
    clear hN hn0 hn1
    go_enter Try.func5, Try.ntmps5
    go_wp2_with fail
    refine (awake_any w).mono ?_
    rintro y w1 ⟨rfl, hb1⟩
    have Hs1 := hide (Hs.out.keep hb1)
    have Hb1 := hide hb1
    clear hb1
    go_wp2_with fail
    rw [HN.out]
    refine (few_any L A c w1 Hs1.out Hl.out).mono ?_
    rintro y w2 ⟨rfl, hb2⟩
    have Hs2 := hide (Hs1.out.keep hb2)
    have Hb2 := hide (Hb1.out.trans (hb2.mono Hb1.out.size))
    clear hb2
    rw [Hf.out, ← HN.out]
    go_wp2
    go_loopw [7, 8] (fun s i wr => ∃ k : Nat, k ≤ N ∧ i = .int .i64 k ∧ s = .int .i64 (size (L.take k)) ∧ Below w2.heap.size w2 wr) (fun _ i _ => N - (intOf i).toNat)
    case atStart => exact ⟨0, Nat.zero_le _, rfl, by simp [size], Below.refl _ _⟩
    case round =>
      obtain ⟨k, hk, rfl, rfl, hb⟩ := hrel
      have Hb := hide hb
      clear hb
      by_cases hlt : k < N
      · obtain ⟨b, o, e, A', c', rfl, hke, ⟨c0, c1, c2⟩, hv⟩ := Hs2.out.at Hb.out (k := k) (by have := HN.out; omega)
        have Hsn := hide (size_snoc L k e hke)
        have hb1 := size_take L (k + 1)
        have hb0 := size_pos (L.take k)
        rw [Hsn.out] at hb1
        have hz := Hsz.out
        obtain ⟨m, hm⟩ : ∃ m : Int, (if 0 < e.del then e.del else 0) = m := ⟨_, rfl⟩
        have Hm := hide (show max 0 e.del = m by rw [← hm]; split <;> omega)
        rw [Hm.out] at hb1
        have hm0 : 0 ≤ m := by rw [← hm]; split <;> omega
        generalize size (L.take k) = q at *
        obtain ⟨il, hil⟩ : ∃ il, il = e.ins.length := ⟨_, rfl⟩
        rw [← hil] at hb1 c2 Hsn
        have hw1 : IntKind.i64.wrap (q + m) = q + m := IntWalk.i64_in _ (by omega)
        have hw2 : IntKind.i64.wrap (q + m + il) = q + m + il := IntWalk.i64_in _ (by omega)
        clear hz hke hv hb1 hil
        go_wp2
        refine Rg.wp_region_ord (fun w' => w'.cell? ⟨b, o + k * 3 + 1, none⟩ = some (.int .i64 e.del) ∧ w'.cell? ⟨b, o + k * 3 + 2, none⟩ = some (.slice A' il c')) [(0, true), (1, true), (2, true), (3, true), (4, true), (5, true), (6, true), (7, true), (8, true), (9, true), (10, true), (11, true), (12, true), (13, true), (14, true), (15, true)] (by kernel_rfl) (by kernel_rfl) ?_
        simp only [Rg.pick, List.map_cons, List.map_nil, List.getD_cons_zero, List.getD_cons_succ]
        iterate 16 (refine Rg.ord_quiet (v := ?_) rfl (fun w' hS => ?_) ⟨c1, c2⟩ ?_; rotate_left; (obtain ⟨s1, s2⟩ := hS; go_simp; with_reducible rfl); simp only [Act.put, List.setIfInBounds_toArray, List.set_cons_succ, List.set_cons_zero])
        refine Rg.ord_nil ?_
        clear hw1 hw2 hm
        go_wp2
        exact ⟨⟨k + 1, by omega, by go_num, by rw [Hsn.out, Hm.out, Int.add_assoc], Hb.out.drew⟩, by simp [intOf]; omega⟩
      · obtain rfl : k = N := by omega
        have Hst := hide (show size (L.take k) = size L by rw [HN.out, List.take_length])
        have Hs3 := hide (Hs2.out.keep Hb.out)
        have Hb3 := hide (Hb2.out.trans (Hb.out.mono Hb2.out.size))
        rw [Hst.out]
        go_wp2_with fail
        rw [HN.out]
        refine (right_any n L A c wr Hs3.out (by have := HN.out; omega) hn1' hn0').mono ?_
        rintro y w4 ⟨rfl, hb4⟩
        have Hs4 := hide (Hs3.out.keep hb4)
        have Hb4 := hide (Hb3.out.trans (hb4.mono Hb3.out.size))
        clear hb4
        rw [← HN.out]
        go_wp2_with fail
        rw [HN.out]
        refine (refRight_any n L A c w4 Hs4.out (by have := HN.out; omega) hn1' hn0').mono ?_
        rintro y w5 ⟨rfl, hb5⟩
        have Hs5 := hide (Hs4.out.keep hb5)
        have Hb5 := hide (Hb4.out.trans (hb5.mono Hb4.out.size))
        clear hb5
        rw [← HN.out]
        go_wp2_with fail
        rw [HN.out]
        refine (size_wide L A c w5 Hs5.out (by have := HN.out; omega) (by have := Hsz.out; omega)).mono ?_
        rintro y w6 ⟨rfl, hb6⟩
        have Hb6 := hide (Hb5.out.trans (hb6.mono Hb5.out.size))
        clear hb6
        go_wp2
        go_ret
        exact ⟨rfl, Hb6.out⟩
end Go.Proofs.Ytcilenppjpnaoaa.Df
