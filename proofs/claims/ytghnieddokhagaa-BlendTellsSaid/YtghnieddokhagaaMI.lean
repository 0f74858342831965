/-
  Two sides' texts, together: merge.Text.
-/
import Derived.BigQuiet
import Derived.Test.YtghnieddokhagaaQMF
namespace Go.Proofs.Ytghnieddokhagaa.Al
open Go Go.RowKit Kt Kg Lw Li Df

theorem to_list (x : List UInt8) : (ByteArray.mk x.toArray).toList = x := by
  rw [Lib.toList_data]
theorem run_max_txt {P : Program} (w : World) (ts : Array TypeId) (ty : TypeId) (x y : List UInt8) : (Builtin.max_ ts ty #[.string ⟨x.toArray⟩, .string ⟨y.toArray⟩]).run P w = .ok (.string ⟨(if Op.bytesLess x y then y else x).toArray⟩) w := by
  unfold Builtin.max_
  simp only [List.foldlM_cons, List.foldlM_nil, Builtin.max2, Op.stringOp, to_list]
  cases Op.bytesLess x y <;> simp [asBool, Sem.run_pure]
theorem mgL_len {o a b : Ls} (ho : o.length ≤ 700) (ha : a.length ≤ 700) (hb : b.length ≤ 700) : (mgL o a b).length ≤ 1000000 := by
  have := (mgL_sum o a b).1
  omega
abbrev TextQ (w : World) (y : Ending) (w' : World) (r : List UInt8 × Nat) : Prop := y = .returned (.tuple #[.string ⟨r.1.toArray⟩, .int .i64 (r.2 : Nat)]) ∧ Below w.heap.size w w'
theorem eq_no {x y : List UInt8} (h : ¬ x = y) : (x == y) = false := by simpa using h
theorem fit_lns {s : List UInt8} (h : s.length ≤ 40000) : Fit (lns s) := fun x hx => by have := lns_mem_le hx; omega
set_option maxRecDepth 100000 in
set_option maxHeartbeats 2000000 in
theorem mtext_1 (o a b : List UInt8) (w : World) (h : a = b) :
    Calls Try.prog 25 #[.string ⟨o.toArray⟩, .string ⟨a.toArray⟩, .string ⟨b.toArray⟩] w fun y w' => TextQ w y w' (a, 0) := by
  subst h
  go_enter Try.func25, Try.ntmps25
  go_wp2
  go_ret2
  exact ⟨rfl, Below.refl _ _⟩
set_option maxRecDepth 100000 in
set_option maxHeartbeats 2000000 in
theorem mtext_2 (o a b : List UInt8) (w : World) (h : ¬ a = b) (h2 : b = o) :
    Calls Try.prog 25 #[.string ⟨o.toArray⟩, .string ⟨a.toArray⟩, .string ⟨b.toArray⟩] w fun y w' => TextQ w y w' (a, 0) := by
  have E1 := eq_no h
  clear h
  subst h2
  go_enter Try.func25, Try.ntmps25
  go_wp2
  go_ret2
  exact ⟨rfl, Below.refl _ _⟩
set_option maxRecDepth 100000 in
set_option maxHeartbeats 2000000 in
theorem mtext_3 (o a b : List UInt8) (w : World) (h : ¬ a = b) (h2 : ¬ b = o) (h3 : a = o) :
    Calls Try.prog 25 #[.string ⟨o.toArray⟩, .string ⟨a.toArray⟩, .string ⟨b.toArray⟩] w fun y w' => TextQ w y w' (b, 0) := by
  have E1 := eq_no h
  have E2 := eq_no h2
  clear h h2
  subst h3
  go_enter Try.func25, Try.ntmps25
  go_wp2
  go_ret2
  exact ⟨rfl, Below.refl _ _⟩
set_option maxRecDepth 100000 in
set_option maxHeartbeats 2000000 in
theorem mtext_4 (o a b : List UInt8) (w : World) (h : ¬ a = b) (h2 : ¬ b = o) (h3 : ¬ a = o) (bo : binary o = true) :
    Calls Try.prog 25 #[.string ⟨o.toArray⟩, .string ⟨a.toArray⟩, .string ⟨b.toArray⟩] w fun y w' => TextQ w y w' (if Op.bytesLess a b then b else a, 1) := by
  have E1 := eq_no h
  have E2 := eq_no h2
  have E3 := eq_no h3
  have Ho := hide (fun w => binary_any o w)
  rw [bo] at Ho
  have hmax := fun ts ty w => run_max_txt (P := Try.prog) w ts ty a b
  obtain ⟨T, hT⟩ : ∃ T, T = if Op.bytesLess a b then b else a := ⟨_, rfl⟩
  rw [← hT]
  simp only [← hT] at hmax
  clear hT h h2 h3 bo
  go_enter Try.func25, Try.ntmps25
  go_wp2_with fail
  refine (Ho.out _).mono ?_
  rintro y w' ⟨rfl, rfl⟩
  go_wp2
  go_ret2
  exact ⟨rfl, Below.refl _ _⟩
set_option maxRecDepth 100000 in
set_option maxHeartbeats 2000000 in
theorem mtext_5 (o a b : List UInt8) (w : World) (h : ¬ a = b) (h2 : ¬ b = o) (h3 : ¬ a = o) (bo : binary o = false) (ba : binary a = true) :
    Calls Try.prog 25 #[.string ⟨o.toArray⟩, .string ⟨a.toArray⟩, .string ⟨b.toArray⟩] w fun y w' => TextQ w y w' (if Op.bytesLess a b then b else a, 1) := by
  have E1 := eq_no h
  have E2 := eq_no h2
  have E3 := eq_no h3
  have Ho := hide (fun w => binary_any o w)
  rw [bo] at Ho
  have Ha := hide (fun w => binary_any a w)
  rw [ba] at Ha
  have hmax := fun ts ty w => run_max_txt (P := Try.prog) w ts ty a b
  obtain ⟨T, hT⟩ : ∃ T, T = if Op.bytesLess a b then b else a := ⟨_, rfl⟩
  rw [← hT]
  simp only [← hT] at hmax
  clear hT h h2 h3 bo ba
  go_enter Try.func25, Try.ntmps25
  go_wp2_with fail
  refine (Ho.out _).mono ?_
  rintro y w' ⟨rfl, rfl⟩
  go_wp2_with fail
  refine (Ha.out _).mono ?_
  rintro y w' ⟨rfl, rfl⟩
  go_wp2
  go_ret2
  exact ⟨rfl, Below.refl _ _⟩
set_option maxRecDepth 100000 in
set_option maxHeartbeats 2000000 in
theorem mtext_6 (o a b : List UInt8) (w : World) (h : ¬ a = b) (h2 : ¬ b = o) (h3 : ¬ a = o) (bo : binary o = false) (ba : binary a = false) (bb : binary b = true) :
    Calls Try.prog 25 #[.string ⟨o.toArray⟩, .string ⟨a.toArray⟩, .string ⟨b.toArray⟩] w fun y w' => TextQ w y w' (if Op.bytesLess a b then b else a, 1) := by
  have E1 := eq_no h
  have E2 := eq_no h2
  have E3 := eq_no h3
  have Ho := hide (fun w => binary_any o w)
  rw [bo] at Ho
  have Ha := hide (fun w => binary_any a w)
  rw [ba] at Ha
  have Hb := hide (fun w => binary_any b w)
  rw [bb] at Hb
  have hmax := fun ts ty w => run_max_txt (P := Try.prog) w ts ty a b
  obtain ⟨T, hT⟩ : ∃ T, T = if Op.bytesLess a b then b else a := ⟨_, rfl⟩
  rw [← hT]
  simp only [← hT] at hmax
  clear hT h h2 h3 bo ba bb
  go_enter Try.func25, Try.ntmps25
  go_wp2_with fail
  refine (Ho.out _).mono ?_
  rintro y w' ⟨rfl, rfl⟩
  go_wp2_with fail
  refine (Ha.out _).mono ?_
  rintro y w' ⟨rfl, rfl⟩
  go_wp2_with fail
  refine (Hb.out _).mono ?_
  rintro y w' ⟨rfl, rfl⟩
  go_wp2
  go_ret2
  exact ⟨rfl, Below.refl _ _⟩
set_option maxRecDepth 100000 in
set_option maxHeartbeats 2000000 in
theorem mtext_7 (o a b : List UInt8) (w : World) (h : ¬ a = b) (h2 : ¬ b = o) (h3 : ¬ a = o) (bo : binary o = false) (ba : binary a = false) (bb : binary b = false) (lo : o.length ≤ 40000) (la : a.length ≤ 40000) (lb : b.length ≤ 40000) (ko : (lns o).length ≤ 700) (ka : (lns a).length ≤ 700) (kb : (lns b).length ≤ 700) :
    Calls Try.prog 25 #[.string ⟨o.toArray⟩, .string ⟨a.toArray⟩, .string ⟨b.toArray⟩] w fun y w' => TextQ w y w' ((mgL (lns o) (lns a) (lns b)).flatten, mgN (lns o) (lns a) (lns b)) := by
  have E1 := eq_no h
  have E2 := eq_no h2
  have E3 := eq_no h3
  have Ho := hide (fun w => binary_any o w)
  rw [bo] at Ho
  have Ha := hide (fun w => binary_any a w)
  rw [ba] at Ha
  have Hb := hide (fun w => binary_any b w)
  rw [bb] at Hb
  have So := hide (fun w => split_any o w (by omega))
  have Ko := lns_len_le o
  have Fo := congrArg List.length (lns_flat o)
  have Sa := hide (fun w => split_any a w (by omega))
  have Ka := lns_len_le a
  have Fa := congrArg List.length (lns_flat a)
  have Sb := hide (fun w => split_any b w (by omega))
  have Kb := lns_len_le b
  have Fb := congrArg List.length (lns_flat b)
  have Hfl := hide (show (mgL (lns o) (lns a) (lns b)).flatten.length ≤ 1000000 by have := (mgL_sum (lns o) (lns a) (lns b)).2; omega)
  have Hln := hide (mgL_len (o := lns o) (a := lns a) (b := lns b) (by omega) (by omega) (by omega))
  have HLn := hide (show ∀ (w1 : World) (A1 A2 A3 : Option Addr) (c1 c2 c3 : Nat), Vs w1 (fun k => k < w1.heap.size) A1 c1 (texts (lns o)) → Vs w1 (fun k => k < w1.heap.size) A2 c2 (texts (lns a)) → Vs w1 (fun k => k < w1.heap.size) A3 c3 (texts (lns b)) → _ from fun w1 A1 A2 A3 c1 c2 c3 v1 v2 v3 => mlines_any (w := w1) (Ao := A1) (Aa := A2) (Ab := A3) (co := c1) (ca := c2) (cb := c3) ⟨v1, v2, v3, by omega, by omega, by omega⟩ (fit_lns lo) (fit_lns la) (fit_lns lb))
  generalize mgL (lns o) (lns a) (lns b) = R at *
  generalize mgN (lns o) (lns a) (lns b) = n at *
  obtain ⟨no, hno⟩ : ∃ z, z = (lns o).length := ⟨_, rfl⟩
  obtain ⟨na, hna⟩ : ∃ z, z = (lns a).length := ⟨_, rfl⟩
  obtain ⟨nb, hnb⟩ : ∃ z, z = (lns b).length := ⟨_, rfl⟩
  rw [← hno, ← hna, ← hnb] at HLn
  have Hno := hide hno
  have Hna := hide hna
  have Hnb := hide hnb
  clear h h2 h3 bo ba bb lo la lb ko ka kb Ko Ka Kb Fo Fa Fb hno hna hnb
  go_enter Try.func25, Try.ntmps25
  go_wp2_with fail
  refine (Ho.out _).mono ?_
  rintro y w' ⟨rfl, rfl⟩
  go_wp2_with fail
  refine (Ha.out _).mono ?_
  rintro y w' ⟨rfl, rfl⟩
  go_wp2_with fail
  refine (Hb.out _).mono ?_
  rintro y w' ⟨rfl, rfl⟩
  go_wp2_with fail
  refine (So.out _).mono ?_
  rintro y w1 ⟨v1, rfl, ho1, hb1⟩
  replace ho1 : OwT w1 _ _ _ (lns o) := ho1
  obtain ⟨A1, c1, rfl, hv1⟩ := ho1.vs
  rw [← Hno.out]
  have Hv1 := hide hv1.bound
  have Hb1 := hide hb1
  clear ho1 hv1 hb1
  go_wp2_with fail
  refine (Sa.out _).mono ?_
  rintro y w2 ⟨v2, rfl, ho2, hb2⟩
  replace ho2 : OwT w2 _ _ _ (lns a) := ho2
  obtain ⟨A2, c2, rfl, hv2⟩ := ho2.vs
  rw [← Hna.out]
  have Hv2 := hide hv2.bound
  have Hb2 := hide hb2
  clear ho2 hv2 hb2
  go_wp2_with fail
  refine (Sb.out _).mono ?_
  rintro y w3 ⟨v3, rfl, ho3, hb3⟩
  replace ho3 : OwT w3 _ _ _ (lns b) := ho3
  obtain ⟨A3, c3, rfl, hv3⟩ := ho3.vs
  rw [← Hnb.out]
  have Hv3 := hide hv3.bound
  have Hb3 := hide hb3
  clear ho3 hv3 hb3
  go_wp2_with fail
  have Hb12 := hide (Hb1.out.trans (Hb2.out.mono Hb1.out.size))
  have Hb13 := hide (Hb12.out.trans (Hb3.out.mono Hb12.out.size))
  refine (HLn.out w3 A1 A2 A3 c1 c2 c3 (Lw.Vs.bound (Lw.Vs.below (Lw.Vs.below Hv1.out Hb2.out) Hb3.out)) (Lw.Vs.bound (Lw.Vs.below Hv2.out Hb3.out)) Hv3.out).mono ?_
  rintro y w4 ⟨v4, rfl, ho4, hb4⟩
  obtain ⟨A4, c4, rfl, hv4⟩ := ho4.vs
  have Hv4 := hide hv4
  have Hb4 := hide (Hb13.out.trans (hb4.mono Hb13.out.size))
  have HJ := hide (join_any R A4 c4 _ w4 hv4 Hln.out Hfl.out)
  obtain ⟨nr, hnr⟩ : ∃ z, z = R.length := ⟨_, rfl⟩
  rw [← hnr] at HJ ⊢
  clear ho4 hv4 hb4 hnr
  go_wp2_with fail
  refine HJ.out.mono ?_
  rintro y w5 ⟨rfl, hb5⟩
  have Hb5 := hide (Hb4.out.trans (hb5.mono Hb4.out.size))
  clear hb5
  go_wp2
  go_ret2
  exact ⟨rfl, Hb5.out⟩
theorem mtext_long (o a b : List UInt8) (w : World) (lo : o.length ≤ 40000) (la : a.length ≤ 40000) (lb : b.length ≤ 40000) (ko : (lns o).length ≤ 700) (ka : (lns a).length ≤ 700) (kb : (lns b).length ≤ 700) :
    Calls Try.prog 25 #[.string ⟨o.toArray⟩, .string ⟨a.toArray⟩, .string ⟨b.toArray⟩] w fun y w' => TextQ w y w' (mgT o a b) := by
  by_cases h : a = b
  · rw [mgT_same (.inl h)]; exact mtext_1 o a b w h
  · by_cases h2 : b = o
    · rw [mgT_same (.inr h2)]; exact mtext_2 o a b w h h2
    · have hn : ¬ (a = b ∨ b = o) := fun hh => hh.elim h h2
      by_cases h3 : a = o
      · rw [mgT_one hn h3]; exact mtext_3 o a b w h h2 h3
      · cases bo : binary o with
        | true => rw [mgT_bin hn h3 (by rw [bo]; rfl)]; exact mtext_4 o a b w h h2 h3 bo
        | false =>
          cases ba : binary a with
          | true => rw [mgT_bin hn h3 (by rw [bo, ba]; rfl)]; exact mtext_5 o a b w h h2 h3 bo ba
          | false =>
            cases bb : binary b with
            | true => rw [mgT_bin hn h3 (by rw [bo, ba, bb]; rfl)]; exact mtext_6 o a b w h h2 h3 bo ba bb
            | false => rw [mgT_lines hn h3 (by rw [bo, ba, bb]; rfl)]; exact mtext_7 o a b w h h2 h3 bo ba bb lo la lb ko ka kb
theorem mtext_any (o a b : List UInt8) (w : World) (lo : o.length ≤ 600) (la : a.length ≤ 600) (lb : b.length ≤ 600) :
    Calls Try.prog 25 #[.string ⟨o.toArray⟩, .string ⟨a.toArray⟩, .string ⟨b.toArray⟩] w fun y w' => TextQ w y w' (mgT o a b) := by
  have Ko := lns_len_le o
  have Ka := lns_len_le a
  have Kb := lns_len_le b
  exact mtext_long o a b w (by omega) (by omega) (by omega) (by omega) (by omega) (by omega)
end Go.Proofs.Ytghnieddokhagaa.Al
