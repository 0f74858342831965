/-
  The walk of the statement WireOne.
-/
import Derived.Test.YtiomhbajbbpmiaaWL

namespace Go.Proofs.Ytiomhbajbbpmiaa.Wr
open Go Go.RowKit Kt

set_option maxHeartbeats 2000000 in
set_option maxRecDepth 100000 in
theorem one_any (bs : List UInt8) (A : Option Addr) (c : Nat) (Pb : Nat → Prop) (w : World) (hs : Sl w Pb A c bs) (hn : bs.length ≤ 9223372036854775807) :
    Calls Try.prog 6 #[.slice A bs.length c] w fun e w' => e = .returned (.bool true) ∧ Below w.heap.size w w' := by
  have Hs := hide hs
  clear hs
  by_cases h1 : 200 < bs.length
  · go_enter Try.func6, Try.ntmps6
    go_wp2_with (go_at_call 10; refine (awake_any _).mono ?_; rintro e w1 ⟨rfl, hb1⟩; have Hb1 := hide hb1; clear hb1)
    go_ret
    exact ⟨rfl, Hb1.out⟩
  · obtain ⟨n, k, e, hnum⟩ : ∃ n k e, numOf bs = (n, k, e) := ⟨_, _, _, rfl⟩
    have hst : stepNum bs 0 = (n, bs.drop k, e) := by unfold stepNum; rw [if_pos rfl, hnum]
    have hkl : k ≤ bs.length := by have := numOf_le bs; rw [hnum] at this; exact this
    go_enter Try.func6, Try.ntmps6
    go_wp2_with (go_at_call 10; refine (awake_any _).mono ?_; rintro e w1 ⟨rfl, hb1⟩; have Hb1 := hide hb1; clear hb1)
    refine (open_any bs A c _ w1 (Hs.out.move fun b _ hb => Hb1.out.block b hb) (by omega)).mono ?_
    rintro y w2 ⟨g, rfl, hr2, hb2⟩
    have Hr2 := hide hr2
    have Hb2 := hide (Hb1.out.trans (hb2.mono Hb1.out.size))
    have Hg := hide (show w.heap.size ≤ g by have := hr2.from; have := Hb1.out.size; omega)
    clear hr2 hb2
    go_wp2_with fail
    refine (read_num Hr2.out).mono ?_
    rintro y w3 ⟨rfl, hr3, ho3⟩
    rw [hst] at hr3 ⊢
    have Hr3 := hide hr3
    have Hb3 := hide (ho3.below Hb2.out Hb2.out.size fun k hk h => by have := Hg.out; omega)
    clear hr3 ho3
    go_wp2_with fail
    refine (fail_any Hr3.out).mono ?_
    rintro y w4 ⟨rfl, rfl⟩
    by_cases he : e = 0
    · subst he
      obtain ⟨hn64, hk1, hk10, _, hf⟩ := numOf_ok bs n k hnum
      have Hn64 := hide hn64
      have Hf := hide hf
      clear hn64 hf
      have hdl : (bs.drop k).length = bs.length - k := List.length_drop
      go_wp2_with fail
      refine (left_any Hr3.out).mono ?_
      rintro y w4 ⟨rfl, rfl⟩
      simp only [hdl]
      have hsub : (bs.length : Int) - ((bs.length - k : Nat) : Int) = (k : Int) := by omega
      have hc := Hs.out.1
      have hkc : k ≤ c := by omega
      have hd1 : decide (1 ≤ (k : Int)) = true := decide_eq_true (by omega)
      have hd2 : decide ((k : Int) ≤ 10) = true := decide_eq_true (by omega)
      have Hst := hide (sl_take Hs.out hkl)
      have Hlt := hide (show (bs.take k).length = k by rw [List.length_take]; omega)
      obtain ⟨b, o, rfl, _, _⟩ := Hs.out.2 (by omega)
      go_wp2_with fail
      refine Rg.wp_region_ord (fun _ => True) [(0, true), (1, true), (2, true), (3, true), (4, true), (5, true), (6, true), (7, true), (8, true), (9, true), (10, true), (12, true), (13, true), (14, true), (11, false), (15, false), (16, true), (17, true)] (by kernel_rfl) (by kernel_rfl) ?_
      simp only [Rg.pick, List.map_cons, List.map_nil, List.getD_cons_zero, List.getD_cons_succ]
      iterate 2 (refine Rg.ord_quiet (v := ?_) rfl (fun w' _ => ?_) trivial ?_; rotate_left; (go_simp; with_reducible rfl); simp only [Act.put, List.setIfInBounds_toArray, List.set_cons_succ, List.set_cons_zero])
      iterate 2 (refine Rg.ord_guarded (v := ?_) (by rfl) (fun w' _ => ?_) trivial ?_; rotate_left; (go_simp; with_reducible rfl); simp only [Act.put, List.setIfInBounds_toArray, List.set_cons_succ, List.set_cons_zero])
      iterate 2 (refine Rg.ord_quiet (v := ?_) rfl (fun w' _ => ?_) trivial ?_; rotate_left; (go_simp; with_reducible rfl); simp only [Act.put, List.setIfInBounds_toArray, List.set_cons_succ, List.set_cons_zero])
      iterate 2 (refine Rg.ord_guarded (v := ?_) (by rfl) (fun w' _ => ?_) trivial ?_; rotate_left; (go_simp; with_reducible rfl); simp only [Act.put, List.setIfInBounds_toArray, List.set_cons_succ, List.set_cons_zero])
      iterate 2 (refine Rg.ord_quiet (v := ?_) rfl (fun w' _ => ?_) trivial ?_; rotate_left; (go_simp; with_reducible rfl); simp only [Act.put, List.setIfInBounds_toArray, List.set_cons_succ, List.set_cons_zero])
      iterate 4 (refine Rg.ord_guarded (v := ?_) (by rfl) (fun w' _ => ?_) trivial ?_; rotate_left; (go_simp; with_reducible rfl); simp only [Act.put, List.setIfInBounds_toArray, List.set_cons_succ, List.set_cons_zero])
      refine Rg.ord_loud (by rfl) (fun K hK => ?_)
      go_simp
      refine (num_any [] n none 0 (fun _ => True) w3.drew (Sl.nil _ _ _ _) Hn64.out (by simp)).mono ?_
      rintro y w5 ⟨v, rfl, hv, hb5⟩
      rw [List.nil_append, Hf.out] at hv
      have hb35 : Below w3.heap.size w3 w5 := ⟨hb5.os, hb5.tape, hb5.output, hb5.size, hb5.block⟩
      obtain ⟨A5, c5, rfl, hsv⟩ := Is.own hv
      rw [Hlt.out] at hsv ⊢
      have Hsv := hide hsv
      have Hb5 := hide (Hb3.out.trans (hb35.mono Hb3.out.size))
      clear hv hsv hb5 hb35
      refine hK _ _ (fun _ => trivial) ?_
      clear hK K
      refine Rg.ord_loud (by rfl) (fun K hK => ?_)
      go_simp
      have hbt := bytes_any (bs.take k) (bs.take k) A5 (some ⟨b, o, none⟩) c5 c _ _ w5 Hsv.out (Hst.out.bound.move fun b _ hb => Hb5.out.block b (by omega)) (by rw [Hlt.out]; omega)
      rw [Hlt.out] at hbt
      refine hbt.mono ?_
      rintro y w6 ⟨rfl, hb6⟩
      simp only [decide_true]
      have Hb6 := hide (Hb5.out.trans (hb6.mono Hb5.out.size))
      clear hb6 hbt
      refine hK _ _ (fun _ => trivial) ?_
      clear hK K
      iterate 2 (refine Rg.ord_quiet (v := ?_) rfl (fun w' _ => ?_) trivial ?_; rotate_left; (go_simp; with_reducible rfl); simp only [Act.put, List.setIfInBounds_toArray, List.set_cons_succ, List.set_cons_zero])
      refine Rg.ord_nil ?_
      go_wp2
      go_ret
      exact ⟨rfl, Hb6.out⟩
    · obtain ⟨rfl, rfl, _⟩ := numOf_fail bs n k e hnum he
      go_wp2_with fail
      refine (left_any Hr3.out).mono ?_
      rintro y w4 ⟨rfl, rfl⟩
      simp only [List.drop_zero]
      go_wp2
      go_ret
      exact ⟨rfl, Hb3.out⟩
end Go.Proofs.Ytiomhbajbbpmiaa.Wr
