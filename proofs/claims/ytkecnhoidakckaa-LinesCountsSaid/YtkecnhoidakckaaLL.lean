/-
  The statement LinesCounts, walked.
-/
import Derived.Test.YtkecnhoidakckaaLH
namespace Go.Proofs.Ytkecnhoidakckaa.Li
open Go Go.RowKit Kt Lw

theorem count_snoc (s : List UInt8) (k : Nat) (h : k < s.length) : (s.take (k + 1)).count 10 = (s.take k).count 10 + if s.getD k 0 = 10 then 1 else 0 := by
  rw [List.take_succ_eq_append_getElem h, List.count_append]
  have : s.getD k 0 = s[k] := by simp [List.getElem?_eq_getElem h]
  rw [this]
  by_cases h10 : s[k] = 10 <;> simp [h10]
/-- each line but the last one is closed, and none is empty -/
theorem lns_at (s : List UInt8) (j : Nat) (h : j < (lns s).length) : (lns s).getD j [] ≠ [] ∧ (j + 1 < (lns s).length → closed ((lns s).getD j []) = true) := by
  have e : lns s = (lns s).take j ++ (lns s)[j] :: (lns s).drop (j + 1) := by
    rw [← List.drop_eq_getElem_cons h, List.take_append_drop]
  have eg : (lns s).getD j [] = (lns s)[j] := by simp [List.getD_eq_getElem?_getD, h]
  obtain ⟨_, e2⟩ := lns_right s _ _ _ e
  rw [eg]
  refine ⟨lns_each_ne s _ (List.getElem_mem h), fun hl => e2 ?_⟩
  intro h0
  have := congrArg List.length h0
  simp at this
  omega

set_option maxHeartbeats 1000000 in
set_option maxRecDepth 100000 in
theorem counts_any (s : List UInt8) (w : World) (hl : s.length ≤ 9223372036854775807) :
    Calls Try.prog 7 #[.string ⟨s.toArray⟩] w fun y w' => y = .returned (.bool true) ∧ Below w.heap.size w w' := by
  by_cases h4 : s.length ≤ 400
  · have hd : decide (400 < (s.length : Int)) = false := by simp; omega
    have Hlc := hide (lns_count s)
    go_enter Try.func7, Try.ntmps7
    go_wp2_with fail
    refine (awake_any w).mono ?_
    rintro y w1 ⟨rfl, hb1⟩
    have Hb1 := hide hb1
    clear hb1
    go_wp2
    go_loop [4, 5] (fun n i => ∃ k : Nat, k ≤ s.length ∧ i = .int .i64 k ∧ n = .int .i64 ((s.take k).count 10 : Nat)) (fun _ i => s.length - (intOf i).toNat)
    case atStart => exact ⟨0, Nat.zero_le _, rfl, by simp⟩
    case round =>
      obtain ⟨k, hk, rfl, rfl⟩ := hrel
      by_cases hlt : k < s.length
      · have eg := get_at s k (by rw [size_of]; exact hlt)
        have Hc := hide (count_snoc s k hlt)
        have hcl : (s.take k).count 10 ≤ k := Nat.le_trans List.count_le_length (List.length_take_le _ _)
        by_cases h10 : s.getD k 0 = 10
        · have e0 : (((s.getD k 0).toNat : Int) == 10) = true := by rw [ten_of, h10]; rfl
          have Hc2 := hide (show (s.take (k + 1)).count 10 = (s.take k).count 10 + 1 by rw [Hc.out, if_pos h10])
          clear h10 Hc
          generalize s.getD k 0 = z at *
          generalize (s.take k).count 10 = m at *
          go_wp2
          exact ⟨⟨k + 1, by omega, by go_num, by rw [Hc2.out]; go_num⟩, by simp [intOf]; omega⟩
        · have e0 : (((s.getD k 0).toNat : Int) == 10) = false := by rw [ten_of]; simpa using h10
          have Hc2 := hide (show (s.take (k + 1)).count 10 = (s.take k).count 10 by rw [Hc.out, if_neg h10, Nat.add_zero])
          clear h10 Hc
          generalize s.getD k 0 = z at *
          generalize (s.take k).count 10 = m at *
          go_wp2
          exact ⟨⟨k + 1, by omega, by go_num, by rw [Hc2.out]⟩, by simp [intOf]; omega⟩
      · obtain rfl : k = s.length := by omega
        rw [List.take_length]
        have hcl : s.count 10 ≤ s.length := List.count_le_length
        generalize s.count 10 = m at *
        go_wp2_with fail
        refine (closed_any s _ hl).mono ?_
        rintro y w2 ⟨rfl, rfl⟩
        obtain ⟨q, hq⟩ : ∃ q, q = (lns s).length := ⟨_, rfl⟩
        have Hq := hide hq
        cases hcs : closed s with
        | true =>
          have hmq : m = q := by rw [hcs] at Hlc; have := Hlc.out; simp at this; omega
          subst hmq
          clear hq
          have hq4 : m ≤ 400 := by omega
          go_wp2_with fail
          refine (split_any s w2 (by omega)).mono ?_
          rintro y w3 ⟨v, rfl, hv, hb3⟩
          obtain ⟨A, c, rfl, hx⟩ := OwT.vs hv
          have Hs3 := hide (Lw.Vs.bound hx)
          have Hb3 := hide (Hb1.out.trans (hb3.mono Hb1.out.size))
          clear hv hx hb3
          rw [← Hq.out]
          go_wp2
          go_loopw [8] (fun i wr => ∃ j : Nat, j ≤ m ∧ i = .int .i64 j ∧ Below w3.heap.size w3 wr) (fun i _ => m - (intOf i).toNat)
          case atStart => exact ⟨0, Nat.zero_le _, rfl, Below.refl _ _⟩
          case round =>
            obtain ⟨j, hj, rfl, hb⟩ := hrel
            have Hb := hide hb
            clear hb
            by_cases hjq : j < m
            · obtain ⟨b, o, rfl, ck⟩ := Hs3.out.text Hb.out (k := j) (by have := Hq.out; omega)
              obtain ⟨hne, hcl⟩ := lns_at s j (by have := Hq.out; omega)
              have hxl : ((lns s).getD j []).length ≤ 1000000 := by
                have hm : (lns s).getD j [] ∈ lns s := by
                  have := Hq.out
                  simp [List.getElem?_eq_getElem (show j < (lns s).length by omega)]
                have := lns_mem_le hm
                omega
              rw [← Hq.out] at hcl
              generalize (lns s).getD j [] = x at *
              have hx0 : ((x.length : Int) == 0) = false := by
                rw [beq_eq_false_iff_ne]
                intro h
                exact hne (List.eq_nil_of_length_eq_zero (by omega))
              clear hne
              by_cases h2 : j + 1 < m
              · have hb2 : decide ((j : Int) + 1 < (m : Int)) = true := by simp; omega
                have Hcl := hide (hcl h2)
                clear hcl
                go_wp2_with fail
                refine (closed_any x _ (by omega)).mono ?_
                rintro y w4 ⟨rfl, rfl⟩
                rw [Hcl.out]
                go_wp2
                exact ⟨⟨j + 1, by omega, by go_num, Hb.out⟩, by simp [intOf]; omega⟩
              · have hb2 : decide ((j : Int) + 1 < (m : Int)) = false := by simp; omega
                clear hcl
                go_wp2
                exact ⟨⟨j + 1, by omega, by go_num, Hb.out⟩, by simp [intOf]; omega⟩
            · obtain rfl : j = m := by omega
              go_wp2_with fail
              refine (count_any s _ hl).mono ?_
              rintro y w4 ⟨rfl, hb4⟩
              rw [← Hq.out]
              go_wp2
              go_ret
              exact ⟨rfl, Hb3.out.trans ((Hb.out.trans (hb4.mono Hb.out.size)).mono Hb3.out.size)⟩
        | false =>
          have hmq : (m : Int) + 1 = (q : Int) := by rw [hcs] at Hlc; have := Hlc.out; simp at this; omega
          have hq4 : q ≤ 401 := by omega
          clear hq
          go_wp2_with fail
          refine (split_any s w2 (by omega)).mono ?_
          rintro y w3 ⟨v, rfl, hv, hb3⟩
          obtain ⟨A, c, rfl, hx⟩ := OwT.vs hv
          have Hs3 := hide (Lw.Vs.bound hx)
          have Hb3 := hide (Hb1.out.trans (hb3.mono Hb1.out.size))
          clear hv hx hb3
          rw [← Hq.out]
          go_wp2
          go_loopw [8] (fun i wr => ∃ j : Nat, j ≤ q ∧ i = .int .i64 j ∧ Below w3.heap.size w3 wr) (fun i _ => q - (intOf i).toNat)
          case atStart => exact ⟨0, Nat.zero_le _, rfl, Below.refl _ _⟩
          case round =>
            obtain ⟨j, hj, rfl, hb⟩ := hrel
            have Hb := hide hb
            clear hb
            by_cases hjq : j < q
            · obtain ⟨b, o, rfl, ck⟩ := Hs3.out.text Hb.out (k := j) (by have := Hq.out; omega)
              obtain ⟨hne, hcl⟩ := lns_at s j (by have := Hq.out; omega)
              have hxl : ((lns s).getD j []).length ≤ 1000000 := by
                have hm : (lns s).getD j [] ∈ lns s := by
                  have := Hq.out
                  simp [List.getElem?_eq_getElem (show j < (lns s).length by omega)]
                have := lns_mem_le hm
                omega
              rw [← Hq.out] at hcl
              generalize (lns s).getD j [] = x at *
              have hx0 : ((x.length : Int) == 0) = false := by
                rw [beq_eq_false_iff_ne]
                intro h
                exact hne (List.eq_nil_of_length_eq_zero (by omega))
              clear hne
              by_cases h2 : j + 1 < q
              · have hb2 : decide ((j : Int) + 1 < (q : Int)) = true := by simp; omega
                have Hcl := hide (hcl h2)
                clear hcl
                go_wp2_with fail
                refine (closed_any x _ (by omega)).mono ?_
                rintro y w4 ⟨rfl, rfl⟩
                rw [Hcl.out]
                go_wp2
                exact ⟨⟨j + 1, by omega, by go_num, Hb.out⟩, by simp [intOf]; omega⟩
              · have hb2 : decide ((j : Int) + 1 < (q : Int)) = false := by simp; omega
                clear hcl
                go_wp2
                exact ⟨⟨j + 1, by omega, by go_num, Hb.out⟩, by simp [intOf]; omega⟩
            · obtain rfl : j = q := by omega
              go_wp2_with fail
              refine (count_any s _ hl).mono ?_
              rintro y w4 ⟨rfl, hb4⟩
              rw [← Hq.out]
              go_wp2
              go_ret
              exact ⟨rfl, Hb3.out.trans ((Hb.out.trans (hb4.mono Hb.out.size)).mono Hb3.out.size)⟩
  · have hd : decide (400 < (s.length : Int)) = true := by simp; omega
    go_enter Try.func7, Try.ntmps7
    go_wp2_with fail
    refine (awake_any w).mono ?_
    rintro y w1 ⟨rfl, hb1⟩
    go_wp2
    go_ret
    exact ⟨rfl, hb1⟩
end Go.Proofs.Ytkecnhoidakckaa.Li
