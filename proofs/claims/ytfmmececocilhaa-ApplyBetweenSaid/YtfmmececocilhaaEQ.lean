/-
  The reference's Few and Right.
-/
import Derived.Test.YtfmmececocilhaaPE
namespace Go.Proofs.Ytfmmececocilhaa.Df
open Go Go.RowKit Kt Lw Li

def fewE (e : Ed) : Bool := decide (e.pos ≤ 1048576) && decide (e.del ≤ 1048576) && decide (e.ins.length ≤ 20)
def fewL (L : List Ed) : Bool := L.all fewE && decide (L.length ≤ 20)
theorem fewL_spec {L : List Ed} (h : fewL L = true) : (∀ e ∈ L, e.pos ≤ 1048576 ∧ e.del ≤ 1048576 ∧ e.ins.length ≤ 20) ∧ L.length ≤ 20 := by
  unfold fewL at h
  simp only [Bool.and_eq_true, decide_eq_true_eq, List.all_eq_true] at h
  refine ⟨fun e he => ?_, h.2⟩
  have := h.1 e he
  simp only [fewE, Bool.and_eq_true, decide_eq_true_eq] at this
  exact ⟨this.1.1, this.1.2, this.2⟩
set_option maxHeartbeats 2000000 in
set_option maxRecDepth 100000 in
theorem refRight_any (n : Int) (L : List Ed) (A : Option Addr) (c : Nat) (w : World) (hs : Es w A c L) (hl : L.length ≤ 1000000) (hn : n ≤ 1099511627776) (hn0 : -1099511627776 ≤ n) :
    Calls Try.prog 31 #[.int .i64 n, .slice A L.length c] w fun y w' => y = .returned (.bool (right n (-1) L)) ∧ Below w.heap.size w w' := by
  have Hs := hide hs
  obtain ⟨N, hN⟩ : ∃ N, N = L.length := ⟨_, rfl⟩
  rw [← hN] at hl ⊢
  have HN := hide hN
  clear hs hN
  go_enter Try.func31, Try.ntmps31
  go_wp2
  go_loopw [5] (fun i wr => ∃ (k : Nat) (q : Int), k ≤ N ∧ i = .int .i64 k ∧ (-1 ≤ q ∧ (k = 0 → q = -1) ∧ (k ≠ 0 → 0 ≤ q ∧ ∃ e, L[k - 1]? = some e ∧ q = e.pos + e.del ∧ 0 ≤ e.pos ∧ 0 ≤ e.del ∧ e.pos + e.del ≤ n)) ∧ right n (-1) L = right n q (L.drop k) ∧ Below w.heap.size w wr) (fun i _ => N - (intOf i).toNat)
  case atStart => exact ⟨0, -1, Nat.zero_le _, rfl, ⟨Int.le_refl _, fun _ => rfl, fun h => absurd rfl h⟩, rfl, Below.refl _ _⟩
  case round =>
    obtain ⟨k, q, hk, rfl, ⟨hq1, hq2, hq3⟩, he, hb⟩ := hrel
    have Hb := hide hb
    have He := hide he
    have Hq3 := hide hq3
    have Hq2 := hide hq2
    clear hb he hq3 hq2
    by_cases hlt : k < N
    · obtain ⟨b, o, e, Ae, ce, hA, hke, ⟨c0, c1, c2⟩, hv⟩ := Hs.out.at Hb.out (k := k) (by have := HN.out; omega)
      have Hke := hide hke
      have hdk : L.drop k = e :: L.drop (k + 1) := by
        have h1 : k < L.length := by have := HN.out; omega
        rw [List.drop_eq_getElem_cons h1]
        rw [List.getElem?_eq_getElem h1] at hke
        injection hke with hke
        rw [hke]
      have Hr := hide (show right n (-1) L = ((decide (0 ≤ e.del) && decide (e.del ≠ 0 ∨ e.ins ≠ []) && decide (q < e.pos) && decide (e.pos ≤ n) && decide (e.del ≤ n - e.pos)) && right n (e.pos + e.del) (L.drop (k + 1))) by
        rw [He.out, hdk, right])
      have Hprev := hide (fun hk0 : k ≠ 0 => Hs.out.at Hb.out (k := k - 1) (by have := HN.out; omega))
      subst hA
      clear hdk hke hv He
      by_cases h1 : e.pos < 0
      · have d1 : decide (e.pos < 0) = true := decide_eq_true h1
        have Hf := hide (show right n (-1) L = false by rw [Hr.out, decide_eq_false (show ¬ q < e.pos by omega)]; simp)
        clear Hr
        go_wp2
        go_quiet (fail)
        go_wp2
        go_ret
        exact ⟨by rw [Hf.out]; rfl, below_drewN Hb.out _⟩
      have d1 : decide (e.pos < 0) = false := decide_eq_false h1
      by_cases h2 : e.del < 0
      · have d2 : decide (e.del < 0) = true := decide_eq_true h2
        have Hf := hide (show right n (-1) L = false by rw [Hr.out, decide_eq_false (show ¬ 0 ≤ e.del by omega)]; simp)
        clear Hr
        go_wp2
        go_quiet (fail)
        go_wp2
        go_ret
        exact ⟨by rw [Hf.out]; rfl, below_drewN Hb.out _⟩
      have d2 : decide (e.del < 0) = false := decide_eq_false h2
      by_cases h3 : n < e.pos
      · have d3 : decide (n < e.pos) = true := decide_eq_true h3
        have Hf := hide (show right n (-1) L = false by rw [Hr.out, decide_eq_false (show ¬ e.pos ≤ n by omega)]; simp)
        clear Hr
        go_wp2
        go_quiet (fail)
        go_wp2
        go_ret
        exact ⟨by rw [Hf.out]; rfl, below_drewN Hb.out _⟩
      have d3 : decide (n < e.pos) = false := decide_eq_false h3
      have hw1 : IntKind.i64.wrap (n - e.pos) = n - e.pos := IntWalk.i64_in _ (by omega)
      by_cases h4 : n - e.pos < e.del
      · have d4 : decide (n - e.pos < e.del) = true := decide_eq_true h4
        have Hf := hide (show right n (-1) L = false by rw [Hr.out, decide_eq_false (show ¬ e.del ≤ n - e.pos by omega)]; simp)
        clear Hr
        go_wp2
        go_quiet (fail)
        go_wp2
        go_ret
        exact ⟨by rw [Hf.out]; rfl, below_drewN Hb.out _⟩
      have d4 : decide (n - e.pos < e.del) = false := decide_eq_false h4
      have hp0 : 0 ≤ e.pos := by omega
      have hd0 : 0 ≤ e.del := by omega
      have hpd : e.pos + e.del ≤ n := by omega
      have Hbd := hide (show 0 ≤ e.pos ∧ 0 ≤ e.del ∧ e.pos + e.del ≤ n ∧ 0 ≤ e.del ∧ e.pos ≤ n ∧ e.del ≤ n - e.pos by omega)
      clear h1 h2 h3 h4
      go_wp2
      go_quiet (fail)
      have Hb3 := hide (below_drewN Hb.out nq)
      have e0 : (wr.drewN nq).cell? ⟨b, o + k * 3, none⟩ = some (.int .i64 e.pos) := c0
      have e1 : (wr.drewN nq).cell? ⟨b, o + k * 3 + 1, none⟩ = some (.int .i64 e.del) := c1
      have e2 : (wr.drewN nq).cell? ⟨b, o + k * 3 + 2, none⟩ = some (.slice Ae e.ins.length ce) := c2
      obtain ⟨w3, hw3⟩ : ∃ w3, w3 = wr.drewN nq := ⟨_, rfl⟩
      have HW3 := hide hw3
      rw [← hw3] at e0 e1 e2 Hb3 ⊢
      clear hw3 c0 c1 c2
      clear hw1
      by_cases h5 : e.del = 0 ∧ e.ins = []
      · obtain ⟨h51, h52⟩ := h5
        have d5 : ((e.del : Int) == 0) = true := by rw [h51]; rfl
        have d6 : ((e.ins.length : Int) == 0) = true := by rw [h52]; rfl
        have Hf := hide (show right n (-1) L = false by rw [Hr.out, decide_eq_false (show ¬ (e.del ≠ 0 ∨ e.ins ≠ []) by rw [h51, h52]; simp)]; simp)
        clear h51 h52 Hr
        go_wp2
        go_ret
        exact ⟨by rw [Hf.out]; rfl, Hb3.out⟩
      have H2 := hide (show e.del ≠ 0 ∨ e.ins ≠ [] by
        by_cases hd : e.del = 0
        · exact .inr fun h => h5 ⟨hd, h⟩
        · exact .inl hd)
      have hcase : (((e.del : Int) == 0) = false) ∨ (((e.del : Int) == 0) = true ∧ ((e.ins.length : Int) == 0) = false) := by
        by_cases hd : e.del = 0
        · refine .inr ⟨by rw [hd]; rfl, ?_⟩
          rw [beq_eq_false_iff_ne]
          have := List.length_pos_iff.2 fun h => h5 ⟨hd, h⟩
          omega
        · exact .inl (by rw [beq_eq_false_iff_ne]; exact hd)
      clear h5
      have Hdr := hide (show ∀ (p : Addr) (v : Value), wr.cell? p = some v → w3.cell? p = some v from fun p v h => by rw [HW3.out]; exact h)
      rcases hcase with d5 | ⟨d5, d6⟩
      · rcases Nat.eq_zero_or_pos k with hk0 | hk0
        · have hq := Hq2.out hk0
          have dk : decide (0 < k) = false := decide_eq_false (by omega)
          have Hlt := hide (show q < e.pos by omega)
          clear hk0 hq
          have Hr2 := hide (show right n (-1) L = right n (e.pos + e.del) (L.drop (k + 1)) by
            rw [Hr.out, decide_eq_true Hbd.out.2.1, decide_eq_true H2.out, decide_eq_true Hlt.out, decide_eq_true Hbd.out.2.2.2.2.1, decide_eq_true Hbd.out.2.2.2.2.2]; rfl)
          clear Hr
          go_wp2
          go_quiet (fail)
          go_wp2
          refine ⟨⟨k + 1, e.pos + e.del, by omega, by go_num, ⟨by omega, fun h => absurd h (Nat.succ_ne_zero _), fun _ => ⟨by omega, e, by rw [Nat.add_sub_cancel]; exact Hke.out, rfl, hp0, hd0, hpd⟩⟩, Hr2.out, below_drewN Hb3.out _⟩, by simp [intOf]; omega⟩
        have dk : decide (0 < k) = true := decide_eq_true hk0
        obtain ⟨_, e', hke', hqe, hp', hd', hpd'⟩ := Hq3.out (by omega)
        obtain ⟨b', o', e'', Ae', ce', hbo, hke'', ⟨f0, f1, f2⟩, _⟩ := Hprev.out (by omega)
        rw [hke'] at hke''
        injection hke'' with hee
        subst hee
        injection hbo with hbo
        injection hbo with hb1 hb2
        subst hb1 hb2
        obtain ⟨k1, hk1⟩ : ∃ k1, k1 = k - 1 := ⟨_, rfl⟩
        rw [← hk1] at f0 f1
        have g0 := Hdr.out _ _ f0
        have g1 := Hdr.out _ _ f1
        have hw2 : IntKind.i64.wrap ((k : Int) - 1) = (k1 : Int) := by rw [IntWalk.i64_in _ (by omega)]; omega
        have hw3 : IntKind.i64.wrap (e'.pos + e'.del) = q := by rw [IntWalk.i64_in _ (by omega)]; exact hqe.symm
        have hk1N : k1 < N := by omega
        clear hk1 hke' f0 f1 f2 hk0 hqe
        by_cases h6 : e.pos ≤ q
        · have d7 : decide (e.pos ≤ q) = true := decide_eq_true h6
          have Hf := hide (show right n (-1) L = false by rw [Hr.out, decide_eq_false (show ¬ q < e.pos by omega)]; simp)
          clear Hr h6
          go_wp2
          go_quiet (fail)
          go_wp2
          go_ret
          exact ⟨by rw [Hf.out]; rfl, below_drewN Hb3.out _⟩
        have d7 : decide (e.pos ≤ q) = false := decide_eq_false h6
        have Hlt := hide (show q < e.pos by omega)
        clear h6
        have Hr2 := hide (show right n (-1) L = right n (e.pos + e.del) (L.drop (k + 1)) by
          rw [Hr.out, decide_eq_true Hbd.out.2.1, decide_eq_true H2.out, decide_eq_true Hlt.out, decide_eq_true Hbd.out.2.2.2.2.1, decide_eq_true Hbd.out.2.2.2.2.2]; rfl)
        clear Hr
        go_wp2
        go_quiet (fail)
        go_wp2
        refine ⟨⟨k + 1, e.pos + e.del, by omega, by go_num, ⟨by omega, fun h => absurd h (Nat.succ_ne_zero _), fun _ => ⟨by omega, e, by rw [Nat.add_sub_cancel]; exact Hke.out, rfl, hp0, hd0, hpd⟩⟩, Hr2.out, below_drewN Hb3.out _⟩, by simp [intOf]; omega⟩
      · rcases Nat.eq_zero_or_pos k with hk0 | hk0
        · have hq := Hq2.out hk0
          have dk : decide (0 < k) = false := decide_eq_false (by omega)
          have Hlt := hide (show q < e.pos by omega)
          clear hk0 hq
          have Hr2 := hide (show right n (-1) L = right n (e.pos + e.del) (L.drop (k + 1)) by
            rw [Hr.out, decide_eq_true Hbd.out.2.1, decide_eq_true H2.out, decide_eq_true Hlt.out, decide_eq_true Hbd.out.2.2.2.2.1, decide_eq_true Hbd.out.2.2.2.2.2]; rfl)
          clear Hr
          go_wp2
          go_quiet (fail)
          go_wp2
          refine ⟨⟨k + 1, e.pos + e.del, by omega, by go_num, ⟨by omega, fun h => absurd h (Nat.succ_ne_zero _), fun _ => ⟨by omega, e, by rw [Nat.add_sub_cancel]; exact Hke.out, rfl, hp0, hd0, hpd⟩⟩, Hr2.out, below_drewN Hb3.out _⟩, by simp [intOf]; omega⟩
        have dk : decide (0 < k) = true := decide_eq_true hk0
        obtain ⟨_, e', hke', hqe, hp', hd', hpd'⟩ := Hq3.out (by omega)
        obtain ⟨b', o', e'', Ae', ce', hbo, hke'', ⟨f0, f1, f2⟩, _⟩ := Hprev.out (by omega)
        rw [hke'] at hke''
        injection hke'' with hee
        subst hee
        injection hbo with hbo
        injection hbo with hb1 hb2
        subst hb1 hb2
        obtain ⟨k1, hk1⟩ : ∃ k1, k1 = k - 1 := ⟨_, rfl⟩
        rw [← hk1] at f0 f1
        have g0 := Hdr.out _ _ f0
        have g1 := Hdr.out _ _ f1
        have hw2 : IntKind.i64.wrap ((k : Int) - 1) = (k1 : Int) := by rw [IntWalk.i64_in _ (by omega)]; omega
        have hw3 : IntKind.i64.wrap (e'.pos + e'.del) = q := by rw [IntWalk.i64_in _ (by omega)]; exact hqe.symm
        have hk1N : k1 < N := by omega
        clear hk1 hke' f0 f1 f2 hk0 hqe
        by_cases h6 : e.pos ≤ q
        · have d7 : decide (e.pos ≤ q) = true := decide_eq_true h6
          have Hf := hide (show right n (-1) L = false by rw [Hr.out, decide_eq_false (show ¬ q < e.pos by omega)]; simp)
          clear Hr h6
          go_wp2
          go_quiet (fail)
          go_wp2
          go_ret
          exact ⟨by rw [Hf.out]; rfl, below_drewN Hb3.out _⟩
        have d7 : decide (e.pos ≤ q) = false := decide_eq_false h6
        have Hlt := hide (show q < e.pos by omega)
        clear h6
        have Hr2 := hide (show right n (-1) L = right n (e.pos + e.del) (L.drop (k + 1)) by
          rw [Hr.out, decide_eq_true Hbd.out.2.1, decide_eq_true H2.out, decide_eq_true Hlt.out, decide_eq_true Hbd.out.2.2.2.2.1, decide_eq_true Hbd.out.2.2.2.2.2]; rfl)
        clear Hr
        go_wp2
        go_quiet (fail)
        go_wp2
        refine ⟨⟨k + 1, e.pos + e.del, by omega, by go_num, ⟨by omega, fun h => absurd h (Nat.succ_ne_zero _), fun _ => ⟨by omega, e, by rw [Nat.add_sub_cancel]; exact Hke.out, rfl, hp0, hd0, hpd⟩⟩, Hr2.out, below_drewN Hb3.out _⟩, by simp [intOf]; omega⟩
    · obtain rfl : k = N := by omega
      have Hr := hide (show right n (-1) L = true by rw [He.out, HN.out, List.drop_length]; rfl)
      go_wp2
      go_ret
      exact ⟨by rw [Hr.out]; rfl, Hb.out⟩
end Go.Proofs.Ytfmmececocilhaa.Df
