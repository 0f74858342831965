/-
  lines.Right, and the reference's Right.
-/
import Derived.Test.YtkecnhoidakckaaLE
import Derived.Test.YtkecnhoidakckaaKT
namespace Go.Proofs.Ytkecnhoidakckaa.Li
open Go Go.RowKit Kt Lw

theorem mem_len {l : List (List UInt8)} (h : l.flatten.length ≤ 1000000) (k : Nat) (hk : k < l.length) : (l.getD k []).length ≤ 1000000 := by
  have hm : l.getD k [] ∈ l := by simp [List.getElem?_eq_getElem hk]
  exact Nat.le_trans (List.Sublist.length_le (List.sublist_flatten_of_mem hm)) h
theorem right_all {l : List (List UInt8)} (h : ∀ j, j < l.length → okAt l j = true) : right l = true := by
  unfold right; rw [List.all_eq_true]; intro i hi; exact h i (List.mem_range.1 hi)
theorem right_not {l : List (List UInt8)} {j : Nat} (hj : j < l.length) (h : okAt l j = false) : right l = false := by
  unfold right; rw [List.all_eq_false]; exact ⟨j, List.mem_range.2 hj, by rw [h]; decide⟩

set_option maxHeartbeats 1000000 in
set_option maxRecDepth 100000 in
theorem right_any (l : List (List UInt8)) (A : Option Addr) (c : Nat) (P : Nat → Prop) (w : World) (hs : Vs w P A c (texts l)) (hn : l.length ≤ 1000000) (hl : l.flatten.length ≤ 1000000) :
    Calls Try.prog 20 #[.slice A l.length c] w fun e w' => e = .returned (.bool (right l)) ∧ Below w.heap.size w w' := by
  have Hs := hide hs.bound
  clear hs
  have Hl := hide hl
  obtain ⟨N, hN⟩ : ∃ N, N = l.length := ⟨_, rfl⟩
  rw [← hN] at hn ⊢
  have HN := hide hN
  clear hN hl
  go_enter Try.func20, Try.ntmps20
  go_wp2
  go_loopw [7] (fun i wr => ∃ k : Nat, k ≤ N ∧ i = .int .i64 k ∧ (∀ j, j < k → okAt l j = true) ∧ Below w.heap.size w wr) (fun i _ => N - (intOf i).toNat)
  case atStart => exact ⟨0, Nat.zero_le _, rfl, fun j h => absurd h (Nat.not_lt_zero _), Below.refl _ _⟩
  case round =>
    obtain ⟨k, hk, rfl, hall, hb⟩ := hrel
    have Hall := hide hall
    have Hb := hide hb
    clear hall hb
    by_cases hlt : k < N
    · obtain ⟨b, o, rfl, ck⟩ := Hs.out.text Hb.out (k := k) (by have := HN.out; omega)
      have hxl := mem_len Hl.out k (by have := HN.out; omega)
      have Hok := hide (show okAt l k = ((lns (l.getD k [])).length == 1 && (!decide (k + 1 < N) || closed (l.getD k []))) by rw [HN.out]; rfl)
      generalize l.getD k [] = x at *
      have HC := hide (fun w => count_any x w (by omega))
      have HD := hide (fun w => closed_any x w (by omega))
      obtain ⟨m, hm⟩ : ∃ m, m = (lns x).length := ⟨_, rfl⟩
      obtain ⟨cl, hcl⟩ : ∃ cl, cl = closed x := ⟨_, rfl⟩
      rw [← hm] at HC Hok
      rw [← hcl] at HD Hok
      clear hm hcl
      by_cases h1 : m = 1
      · subst h1
        have hb1 : (((1 : Nat) : Int) != 1) = false := rfl
        by_cases h2 : k + 1 < N
        · have hb2 : decide ((k : Int) < (N : Int) - 1) = true := by simp; omega
          cases cl with
          | false =>
            have Hno := hide (show okAt l k = false by rw [Hok.out, decide_eq_true h2]; rfl)
            go_wp2_with fail
            refine (HC.out _).mono ?_
            rintro e w1 ⟨rfl, hb1'⟩
            have Hb1 := hide (Hb.out.trans (hb1'.mono Hb.out.size))
            clear hb1'
            go_wp2_with fail
            refine (HD.out _).mono ?_
            rintro e w2 ⟨rfl, rfl⟩
            go_wp2
            go_ret
            exact ⟨by rw [right_not (by have := HN.out; omega) Hno.out]; rfl, Hb1.out⟩
          | true =>
            have Hyes := hide (show okAt l k = true by rw [Hok.out]; simp)
            go_wp2_with fail
            refine (HC.out _).mono ?_
            rintro e w1 ⟨rfl, hb1'⟩
            have Hb1 := hide (Hb.out.trans (hb1'.mono Hb.out.size))
            clear hb1'
            go_wp2_with fail
            refine (HD.out _).mono ?_
            rintro e w2 ⟨rfl, rfl⟩
            go_wp2
            refine ⟨⟨k + 1, by omega, by go_num, fun j hj => ?_, Hb1.out⟩, by simp [intOf]; omega⟩
            rcases Nat.lt_or_ge j k with hj' | hj'
            · exact Hall.out j hj'
            · obtain rfl : j = k := by omega
              exact Hyes.out
        · have hb2 : decide ((k : Int) < (N : Int) - 1) = false := by simp; omega
          have Hyes := hide (show okAt l k = true by rw [Hok.out, decide_eq_false h2]; simp)
          go_wp2_with fail
          refine (HC.out _).mono ?_
          rintro e w1 ⟨rfl, hb1'⟩
          have Hb1 := hide (Hb.out.trans (hb1'.mono Hb.out.size))
          clear hb1'
          go_wp2
          refine ⟨⟨k + 1, by omega, by go_num, fun j hj => ?_, Hb1.out⟩, by simp [intOf]; omega⟩
          rcases Nat.lt_or_ge j k with hj' | hj'
          · exact Hall.out j hj'
          · obtain rfl : j = k := by omega
            exact Hyes.out
      · have hb1 : ((m : Int) != 1) = true := by rw [bne_iff_ne]; omega
        have Hno := hide (show okAt l k = false by rw [Hok.out, beq_eq_false_iff_ne.2 h1]; rfl)
        go_wp2_with fail
        refine (HC.out _).mono ?_
        rintro e w1 ⟨rfl, hb1'⟩
        have Hb1 := hide (Hb.out.trans (hb1'.mono Hb.out.size))
        clear hb1'
        go_wp2
        go_ret
        exact ⟨by rw [right_not (by have := HN.out; omega) Hno.out]; rfl, Hb1.out⟩
    · obtain rfl : k = N := by omega
      go_wp2
      go_ret
      exact ⟨by rw [right_all (fun j hj => Hall.out j (by have := HN.out; omega))]; rfl, Hb.out⟩

theorem closed_get {x : List UInt8} (h : x ≠ []) : closed x = (x.getD (x.length - 1) 0 == 10) := by
  rcases List.eq_nil_or_concat x with rfl | ⟨p, b, rfl⟩
  · exact absurd rfl h
  · rw [List.concat_eq_append, closed_snoc]; simp
/-- line i, byte by byte -/
theorem okAt_bytes (l : List (List UInt8)) (i : Nat) (x : List UInt8) (hx : l.getD i [] = x) :
    okAt l i = (!x.isEmpty && (!x.dropLast.contains 10 && (!decide (i + 1 < l.length) || x.getD (x.length - 1) 0 == 10))) := by
  unfold okAt
  rw [hx]
  by_cases h0 : x = []
  · subst h0; simp [lns]
  · rw [closed_get h0]
    have e : ((lns x).length == 1) = (!x.isEmpty && !x.dropLast.contains 10) := by
      rw [Bool.eq_iff_iff, beq_iff_eq, one_iff']
      simp
    rw [e, Bool.and_assoc]
theorem drop_snoc (x : List UInt8) (j : Nat) (h : j + 1 < x.length) : x.take (j + 1) = x.take j ++ [x.getD j 0] := by
  rw [List.take_succ_eq_append_getElem (by omega)]; simp [List.getElem?_eq_getElem (show j < x.length by omega)]

set_option maxHeartbeats 1000000 in
set_option maxRecDepth 100000 in
theorem refRight_any (l : List (List UInt8)) (A : Option Addr) (c : Nat) (P : Nat → Prop) (w : World) (hs : Vs w P A c (texts l)) (hn : l.length ≤ 1000000) (hl : l.flatten.length ≤ 1000000) :
    Calls Try.prog 21 #[.slice A l.length c] w fun e w' => e = .returned (.bool (right l)) ∧ Below w.heap.size w w' := by
  have Hs := hide hs.bound
  clear hs
  have Hl := hide hl
  obtain ⟨N, hN⟩ : ∃ N, N = l.length := ⟨_, rfl⟩
  rw [← hN] at hn ⊢
  have HN := hide hN
  clear hN hl
  go_enter Try.func21, Try.ntmps21
  go_wp2
  go_loopw [3] (fun i wr => ∃ k : Nat, k ≤ N ∧ i = .int .i64 k ∧ (∀ j, j < k → okAt l j = true) ∧ Below w.heap.size w wr) (fun i _ => N - (intOf i).toNat)
  case atStart => exact ⟨0, Nat.zero_le _, rfl, fun j h => absurd h (Nat.not_lt_zero _), Below.refl _ _⟩
  case round =>
    obtain ⟨k, hk, rfl, hall, hb⟩ := hrel
    have Hall := hide hall
    have Hb := hide hb
    clear hall hb
    by_cases hlt : k < N
    · obtain ⟨b, o, rfl, ck⟩ := Hs.out.text Hb.out (k := k) (by have := HN.out; omega)
      have hxl := mem_len Hl.out k (by have := HN.out; omega)
      have Hok := hide (okAt_bytes l k _ rfl)
      rw [← HN.out] at Hok
      generalize l.getD k [] = x at *
      obtain ⟨n, hnx⟩ : ∃ n, n = x.length := ⟨_, rfl⟩
      have Hnx := hide hnx
      by_cases h0 : n = 0
      · subst h0
        have Hno := hide (show okAt l k = false by
          have : x = [] := List.eq_nil_of_length_eq_zero hnx.symm
          rw [Hok.out, this]; rfl)
        clear hxl
        go_wp2
        go_ret
        exact ⟨by rw [right_not (by have := HN.out; omega) Hno.out]; rfl, Hb.out⟩
      · have hn0 : ((n : Int) == 0) = false := by rw [beq_eq_false_iff_ne]; omega
        have hxn : ¬ x.length = 0 := by omega
        have hl1 : (x.length : Int) = n := by omega
        rw [← hnx] at hxl
        clear hnx hxn
        go_wp2
        go_loop [5] (fun v => ∃ m : Nat, m + 1 ≤ n ∧ v = .int .i64 m ∧ (x.take m).contains 10 = false) (fun v => n - (intOf v).toNat)
        case atStart => exact ⟨0, by omega, rfl, by simp⟩
        case round =>
          obtain ⟨m, hm, rfl, hct⟩ := hrel
          have hmx : m < (ByteArray.mk x.toArray).size := by have := Hnx.out; rw [size_of]; omega
          have eg := get_at x m hmx
          by_cases hmn : m + 1 < n
          · have Hts := hide (drop_snoc x m (by have := Hnx.out; omega))
            have hd : decide ((m : Int) < (n : Int) - 1) = true := by simp; omega
            by_cases h10 : x.getD m 0 = 10
            · have e0 : (((x.getD m 0).toNat : Int) == 10) = true := by rw [ten_of, h10]; rfl
              have Hno := hide (show okAt l k = false by
                rw [Hok.out]
                have hd : x.dropLast.contains 10 = true := by
                  rw [List.contains_iff_mem, List.dropLast_eq_take, ← h10]
                  have hlt2 : m < (x.take (x.length - 1)).length := by have := Hnx.out; rw [List.length_take]; omega
                  have : x.getD m 0 = (x.take (x.length - 1))[m] := by
                    simp [List.getElem?_eq_getElem (show m < x.length by have := Hnx.out; omega)]
                  rw [this]
                  exact List.getElem_mem _
                rw [hd]; simp)
              clear h10 hct
              generalize x.getD m 0 = z at *
              go_wp2
              go_ret
              exact ⟨by rw [right_not (by have := HN.out; omega) Hno.out]; rfl, Hb.out⟩
            · have e0 : (((x.getD m 0).toNat : Int) == 10) = false := by rw [ten_of]; simpa using h10
              have Hct := hide (show (x.take (m + 1)).contains 10 = false by
                rw [Hts.out]
                simp only [List.contains_eq_mem, decide_eq_false_iff_not, List.mem_append, List.mem_singleton, not_or] at hct ⊢
                exact ⟨hct, fun h => h10 h.symm⟩)
              clear h10 hct Hts
              generalize x.getD m 0 = z at *
              go_wp2
              exact ⟨⟨m + 1, by omega, by go_num, Hct.out⟩, by simp [intOf]; omega⟩
          · have hd : decide ((m : Int) < (n : Int) - 1) = false := by simp; omega
            have Hdl := hide (show x.dropLast.contains 10 = false by
              rw [List.dropLast_eq_take, show x.length - 1 = m by have := Hnx.out; omega]; exact hct)
            have Hne := hide (show x.isEmpty = false by
              cases x with
              | nil => have := Hnx.out; simp at this; omega
              | cons _ _ => rfl)
            have hnm : (n : Int) - 1 = (m : Int) := by omega
            have Hmx := hide (show x.length - 1 = m by have := Hnx.out; omega)
            clear hct
            by_cases h2 : k + 1 < N
            · have hb2 : decide ((k : Int) < (N : Int) - 1) = true := by simp; omega
              by_cases h10 : x.getD m 0 = 10
              · have e0 : (((x.getD m 0).toNat : Int) != 10) = false := by rw [bne, ten_of, h10]; rfl
                have Hyes := hide (show okAt l k = true by rw [Hok.out, Hdl.out, Hne.out, Hmx.out, h10]; simp)
                clear h10
                generalize x.getD m 0 = z at *
                go_wp2
                refine ⟨⟨k + 1, by omega, by go_num, fun j hj => ?_, Hb.out⟩, by simp [intOf]; omega⟩
                rcases Nat.lt_or_ge j k with hj' | hj'
                · exact Hall.out j hj'
                · obtain rfl : j = k := by omega
                  exact Hyes.out
              · have e0 : (((x.getD m 0).toNat : Int) != 10) = true := by rw [bne, ten_of]; simpa using h10
                have Hno := hide (show okAt l k = false by
                  rw [Hok.out, Hdl.out, Hne.out, Hmx.out, decide_eq_true h2, beq_eq_false_iff_ne.2 h10]; rfl)
                clear h10
                generalize x.getD m 0 = z at *
                go_wp2
                go_ret
                exact ⟨by rw [right_not (by have := HN.out; omega) Hno.out]; rfl, Hb.out⟩
            · have hb2 : decide ((k : Int) < (N : Int) - 1) = false := by simp; omega
              have Hyes := hide (show okAt l k = true by rw [Hok.out, Hdl.out, Hne.out, decide_eq_false h2]; simp)
              go_wp2
              refine ⟨⟨k + 1, by omega, by go_num, fun j hj => ?_, Hb.out⟩, by simp [intOf]; omega⟩
              rcases Nat.lt_or_ge j k with hj' | hj'
              · exact Hall.out j hj'
              · obtain rfl : j = k := by omega
                exact Hyes.out
    · obtain rfl : k = N := by omega
      go_wp2
      go_ret
      exact ⟨by rw [right_all (fun j hj => Hall.out j (by have := HN.out; omega))]; rfl, Hb.out⟩
end Go.Proofs.Ytkecnhoidakckaa.Li
