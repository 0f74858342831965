/-
  Edits and Turn of a right hunk; the reference's One, of hunks that are one, and Few.
-/
import Derived.Test.YtfmmececocilhaaHN
namespace Go.Proofs.Ytfmmececocilhaa.Hu
open Go Go.RowKit Kt Lw Li Df

theorem hturn_any (h : Hk) (A : Option Addr) (c : Nat) (P : Nat → Prop) (w : World) (hs : Vs w P A c (texts h.lines)) (hn : h.lines.length ≤ 100000) (hr : hright h = true) (hx : ∀ x ∈ h.lines, x.length ≤ 9223372036854775807) :
    Calls Try.prog 27 #[.agg #[.int .i64 h.a, .int .i64 h.an, .int .i64 h.b, .int .i64 h.bn, .slice A h.lines.length c]] w fun y w' => ∃ v, y = .returned (.agg #[.int .i64 (hturn h).a, .int .i64 (hturn h).an, .int .i64 (hturn h).b, .int .i64 (hturn h).bn, v]) ∧ OwT w' w.heap.size tS v (hturn h).lines ∧ Below w.heap.size w w' := by
  obtain ⟨ps, hg, hl, he, ht, _⟩ := hparts hr
  obtain ⟨a, an, b, bn, l⟩ := h
  simp only at hl hs hn hr hx ht ⊢
  subst hl
  rw [ht]
  exact turn_any a an b bn ps hg A c P w hs hn hx hr
set_option maxHeartbeats 1000000 in
set_option maxRecDepth 100000 in
theorem one_same (h : Hk) (A A' : Option Addr) (c c' : Nat) (P P' : Nat → Prop) (w : World) (hs : Vs w P A c (texts h.lines)) (hs' : Vs w P' A' c' (texts h.lines)) (hn : h.lines.length ≤ 100000) :
    Calls Try.prog 26 #[.agg #[.int .i64 h.a, .int .i64 h.an, .int .i64 h.b, .int .i64 h.bn, .slice A h.lines.length c], .agg #[.int .i64 h.a, .int .i64 h.an, .int .i64 h.b, .int .i64 h.bn, .slice A' h.lines.length c']] w fun y w' => y = .returned (.bool true) ∧ Below w.heap.size w w' := by
  obtain ⟨a, an, b, bn, l⟩ := h
  simp only at hs hs' hn ⊢
  have Ht := hide (fun w1 (hb : Below w.heap.size w w1) => texts_any l l A A' c c' _ _ w1 (Lw.Vs.below hs.bound hb) (Lw.Vs.below hs'.bound hb) (by omega))
  have hdt : decide (l = l) = true := decide_eq_true rfl
  rw [hdt] at Ht
  obtain ⟨N, hN⟩ : ∃ N, N = l.length := ⟨_, rfl⟩
  rw [← hN] at Ht ⊢
  clear hs hs' hn hN hdt
  go_enter Try.func26, Try.ntmps26
  go_wp2_with fail
  refine (Ht.out _ (((Below.refl _ w).alloc (Nat.le_refl _) _).alloc (by simp) _)).mono ?_
  rintro y w1 ⟨rfl, hb1⟩
  have hb2 := (((Below.refl w.heap.size w).alloc (Nat.le_refl _) _).alloc (by simp) _).trans (hb1.mono (by simp; omega))
  clear hb1
  go_wp2
  go_ret
  exact ⟨rfl, hb2⟩
def tooBig (h : Hk) : Prop := 30 < (h.lines.length : Int) ∨ 1048576 < h.a ∨ 1048576 < h.b ∨ 1048576 < h.an ∨ 1048576 < h.bn ∨ h.a < -1048576 ∨ h.b < -1048576 ∨ h.an < -1048576 ∨ h.bn < -1048576
instance (h : Hk) : Decidable (tooBig h) := by unfold tooBig; infer_instance
def fewH (L : List Hk) : Bool := decide (∀ h ∈ L, ¬ tooBig h) && decide (L.length ≤ 12)
theorem few_no {L : List Hk} {h : Hk} {k : Nat} (hk : L[k]? = some h) (hb : tooBig h) : fewH L = false := by
  unfold fewH
  rw [decide_eq_false fun h' => h' h (List.mem_of_getElem? hk) hb]; rfl
set_option maxHeartbeats 2000000 in
set_option maxRecDepth 100000 in
theorem few_any (L : List Hk) (A : Option Addr) (c : Nat) (w : World) (hs : Hks w A c L) (hl : L.length ≤ 9223372036854775807) :
    Calls Try.prog 11 #[.slice A L.length c] w fun y w' => y = .returned (.bool (fewH L)) ∧ Below w.heap.size w w' := by
  have Hs := hide hs
  obtain ⟨N, hN⟩ : ∃ N, N = L.length := ⟨_, rfl⟩
  rw [← hN] at hl ⊢
  have HN := hide hN
  clear hs hN
  go_enter Try.func11, Try.ntmps11
  go_wp2
  go_loopw [3] (fun i wr => ∃ k : Nat, k ≤ N ∧ i = .int .i64 k ∧ (∀ h ∈ L.take k, ¬ tooBig h) ∧ Below w.heap.size w wr) (fun i _ => N - (intOf i).toNat)
  case atStart => exact ⟨0, Nat.zero_le _, rfl, (fun h hh => by simp at hh), Below.refl _ _⟩
  case round =>
    obtain ⟨k, hk, rfl, hall, hb⟩ := hrel
    have Hb := hide hb
    have Hall := hide hall
    clear hb hall
    by_cases hlt : k < N
    · obtain ⟨b, o, h, A', c', rfl, hke, ⟨c0, c1, c2, c3, c4⟩, _⟩ := Hs.out.at Hb.out (k := k) (by have := HN.out; omega)
      have Hno := hide (fun hb => few_no (L := L) hke hb)
      have Hke := hide hke
      have Hbig := hide (show tooBig h ↔ (30 < (h.lines.length : Int) ∨ 1048576 < h.a ∨ 1048576 < h.b ∨ 1048576 < h.an ∨ 1048576 < h.bn ∨ h.a < -1048576 ∨ h.b < -1048576 ∨ h.an < -1048576 ∨ h.bn < -1048576) from Iff.rfl)
      obtain ⟨n, hn⟩ : ∃ n, n = h.lines.length := ⟨_, rfl⟩
      rw [← hn] at c4 Hbig
      obtain ⟨za, hza⟩ : ∃ z, z = h.a := ⟨_, rfl⟩
      obtain ⟨zan, hzan⟩ : ∃ z, z = h.an := ⟨_, rfl⟩
      obtain ⟨zb, hzb⟩ : ∃ z, z = h.b := ⟨_, rfl⟩
      obtain ⟨zbn, hzbn⟩ : ∃ z, z = h.bn := ⟨_, rfl⟩
      rw [← hza] at c0 Hbig
      rw [← hzan] at c1 Hbig
      rw [← hzb] at c2 Hbig
      rw [← hzbn] at c3 Hbig
      have hb1 := Hb.out.size
      have Hba := hide (fun o' => Hb.out.alloc hb1 o')
      clear hke hn hza hzan hzb hzbn
      by_cases x0 : 30 < (n : Int)
      · have d0 : decide (30 < (n : Int)) = true := decide_eq_true x0
        have hf := Hno.out (Hbig.out.2 (.inl x0))
        have Hf := hide hf
        clear hf x0
        go_wp2
        go_ret
        exact ⟨by rw [Hf.out]; rfl, Hba.out _⟩
      have d0 : decide (30 < (n : Int)) = false := decide_eq_false x0
      by_cases x1 : 1048576 < za
      · have d1 : decide (1048576 < za) = true := decide_eq_true x1
        have hf := Hno.out (Hbig.out.2 (.inr (.inl x1)))
        have Hf := hide hf
        clear hf x0 x1
        go_wp2
        go_ret
        exact ⟨by rw [Hf.out]; rfl, Hba.out _⟩
      have d1 : decide (1048576 < za) = false := decide_eq_false x1
      by_cases x2 : 1048576 < zb
      · have d2 : decide (1048576 < zb) = true := decide_eq_true x2
        have hf := Hno.out (Hbig.out.2 (.inr (.inr (.inl x2))))
        have Hf := hide hf
        clear hf x0 x1 x2
        go_wp2
        go_ret
        exact ⟨by rw [Hf.out]; rfl, Hba.out _⟩
      have d2 : decide (1048576 < zb) = false := decide_eq_false x2
      by_cases x3 : 1048576 < zan
      · have d3 : decide (1048576 < zan) = true := decide_eq_true x3
        have hf := Hno.out (Hbig.out.2 (.inr (.inr (.inr (.inl x3)))))
        have Hf := hide hf
        clear hf x0 x1 x2 x3
        go_wp2
        go_ret
        exact ⟨by rw [Hf.out]; rfl, Hba.out _⟩
      have d3 : decide (1048576 < zan) = false := decide_eq_false x3
      by_cases x4 : 1048576 < zbn
      · have d4 : decide (1048576 < zbn) = true := decide_eq_true x4
        have hf := Hno.out (Hbig.out.2 (.inr (.inr (.inr (.inr (.inl x4))))))
        have Hf := hide hf
        clear hf x0 x1 x2 x3 x4
        go_wp2
        go_ret
        exact ⟨by rw [Hf.out]; rfl, Hba.out _⟩
      have d4 : decide (1048576 < zbn) = false := decide_eq_false x4
      by_cases x5 : za < -1048576
      · have d5 : decide (za < -1048576) = true := decide_eq_true x5
        have hf := Hno.out (Hbig.out.2 (.inr (.inr (.inr (.inr (.inr (.inl x5)))))))
        have Hf := hide hf
        clear hf x0 x1 x2 x3 x4 x5
        go_wp2
        go_ret
        exact ⟨by rw [Hf.out]; rfl, Hba.out _⟩
      have d5 : decide (za < -1048576) = false := decide_eq_false x5
      by_cases x6 : zb < -1048576
      · have d6 : decide (zb < -1048576) = true := decide_eq_true x6
        have hf := Hno.out (Hbig.out.2 (.inr (.inr (.inr (.inr (.inr (.inr (.inl x6))))))))
        have Hf := hide hf
        clear hf x0 x1 x2 x3 x4 x5 x6
        go_wp2
        go_ret
        exact ⟨by rw [Hf.out]; rfl, Hba.out _⟩
      have d6 : decide (zb < -1048576) = false := decide_eq_false x6
      by_cases x7 : zan < -1048576
      · have d7 : decide (zan < -1048576) = true := decide_eq_true x7
        have hf := Hno.out (Hbig.out.2 (.inr (.inr (.inr (.inr (.inr (.inr (.inr (.inl x7)))))))))
        have Hf := hide hf
        clear hf x0 x1 x2 x3 x4 x5 x6 x7
        go_wp2
        go_ret
        exact ⟨by rw [Hf.out]; rfl, Hba.out _⟩
      have d7 : decide (zan < -1048576) = false := decide_eq_false x7
      by_cases x8 : zbn < -1048576
      · have d8 : decide (zbn < -1048576) = true := decide_eq_true x8
        have hf := Hno.out (Hbig.out.2 (.inr (.inr (.inr (.inr (.inr (.inr (.inr (.inr (x8))))))))))
        have Hf := hide hf
        clear hf x0 x1 x2 x3 x4 x5 x6 x7 x8
        go_wp2
        go_ret
        exact ⟨by rw [Hf.out]; rfl, Hba.out _⟩
      have d8 : decide (zbn < -1048576) = false := decide_eq_false x8
      have Hok := hide (show ¬ tooBig h from fun hb => by
        have := Hbig.out.1 hb
        omega)
      clear x0 x1 x2 x3 x4 x5 x6 x7 x8
      go_wp2
      refine ⟨⟨k + 1, by omega, by go_num, fun h' hh => ?_, Hba.out _⟩, by simp [intOf]; omega⟩
      rw [List.take_add_one, Hke.out] at hh
      rcases List.mem_append.1 hh with hh | hh
      · exact Hall.out h' hh
      · simp at hh; rw [hh]; exact Hok.out
    · obtain rfl : k = N := by omega
      have Hf := hide (show fewH L = decide ((k : Int) ≤ 12) by
        have h1 := Hall.out
        rw [HN.out, List.take_length] at h1
        unfold fewH
        rw [decide_eq_true h1, Bool.true_and, ← HN.out, decide_eq_decide]
        omega)
      go_wp2
      go_ret
      exact ⟨by rw [Hf.out]; rfl, Hb.out⟩
end Go.Proofs.Ytfmmececocilhaa.Hu
