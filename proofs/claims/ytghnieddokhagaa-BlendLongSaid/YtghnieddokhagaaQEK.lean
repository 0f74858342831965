/-
  diff.walk.
-/
import Derived.Test.YtghnieddokhagaaQEG
namespace Go.Proofs.Ytghnieddokhagaa.Df
open Go Go.RowKit Kt Lw Li

theorem go_at_end {x y : Ls} {i j : Nat} (hi : x.length ≤ i) (hj : y.length ≤ j) (pos del : Nat) (ins : Ls) : go (x.drop i) (y.drop j) pos del ins = emit pos del ins := by
  rw [List.drop_of_length_le hi, List.drop_of_length_le hj, go_nil]
theorem go_at_same {x y : Ls} {i j : Nat} (hi : i < x.length) (hj : j < y.length) (h : x.getD i [] = y.getD j []) (pos del : Nat) (ins : Ls) :
    go (x.drop i) (y.drop j) pos del ins = emit pos del ins ++ go (x.drop (i + 1)) (y.drop (j + 1)) (pos + del + 1) 0 [] := by
  rw [drop_getD_cons x i hi, drop_getD_cons y j hj, go_both, if_pos h]
theorem go_at_gone {x y : Ls} {i j : Nat} (hi : i < x.length) (h : y.length ≤ j ∨ (j < y.length ∧ x.getD i [] ≠ y.getD j [] ∧ lcs (x.drop i) (y.drop (j + 1)) ≤ lcs (x.drop (i + 1)) (y.drop j))) (pos del : Nat) (ins : Ls) :
    go (x.drop i) (y.drop j) pos del ins = go (x.drop (i + 1)) (y.drop j) pos (del + 1) ins := by
  rcases h with h | ⟨hj, hne, hl⟩
  · rw [List.drop_of_length_le h, drop_getD_cons x i hi, go_gone]
  · rw [drop_getD_cons x i hi, drop_getD_cons y j hj] at *
    rw [go_both, if_neg hne, if_pos hl]
theorem go_at_come {x y : Ls} {i j : Nat} (hj : j < y.length) (h : x.length ≤ i ∨ (i < x.length ∧ x.getD i [] ≠ y.getD j [] ∧ ¬ lcs (x.drop i) (y.drop (j + 1)) ≤ lcs (x.drop (i + 1)) (y.drop j))) (pos del : Nat) (ins : Ls) :
    go (x.drop i) (y.drop j) pos del ins = go (x.drop i) (y.drop (j + 1)) pos del (ins ++ [y.getD j []]) := by
  rcases h with h | ⟨hi, hne, hl⟩
  · rw [List.drop_of_length_le h, drop_getD_cons y j hj, go_come]
  · rw [drop_getD_cons x i hi, drop_getD_cons y j hj] at *
    rw [go_both, if_neg hne, if_neg hl]
theorem take_more (y : Ls) {q j : Nat} (hq : q ≤ j) (hj : j < y.length) : (y.drop q).take (j + 1 - q) = (y.drop q).take (j - q) ++ [y.getD j []] := by
  rw [show j + 1 - q = j - q + 1 from by omega, List.take_add_one, List.getElem?_drop, show q + (j - q) = j from by omega]
  simp [List.getElem?_eq_getElem hj]

theorem Filled.all {x y : Ls} {L : List Int} (h : Filled x y 0 0 L) {i' j' : Nat} (hi : i' ≤ x.length) (hj : j' ≤ y.length) : L.getD (i' * (y.length + 1) + j') 0 = (lcs (x.drop i') (y.drop j') : Nat) := by
  refine h i' j' hi hj ?_
  rcases Nat.eq_zero_or_pos i' with h0 | h0
  · exact .inr (.inr ⟨h0.symm, Nat.zero_le _⟩)
  · exact .inl h0
theorem row_ne {w : World} {B g : Nat} {t : TypeId} {cs : List Value} {v : Value} {L : List Ed} (h : Row w g t cs) (ht : t ≠ tE) (k : OwE w B v L) : some g ≠ v.ownBlock := by
  obtain ⟨V, _, hr, _⟩ := k
  intro e
  rcases hr.2 with ⟨rfl, _⟩ | ⟨g', cap', cur', rfl, _, hgg', _⟩
  · cases e
  · simp only [Value.ownBlock, Option.some.injEq] at e
    subst e
    unfold Row at h
    rw [hgg'] at h
    simp at h
    exact ht h.2.symm
theorem nums_ne {w : World} {B B' g N : Nat} {v : Value} {L : List Ed} {l : List Int} (h : Nums w B' g N l) (k : OwE w B v L) : some g ≠ v.ownBlock := by
  rcases h.2 with ⟨e, _⟩ | ⟨g', cap', cur', e, _, hgg', _⟩
  · cases e
  · simp only [Value.slice.injEq, Option.some.injEq, Addr.mk.injEq, and_true, true_and] at e
    obtain ⟨rfl, _⟩ := e
    exact row_ne (cs := cur'.toList) (t := tI) (by unfold Row; simpa using hgg') (by decide) k
theorem Nums.grown {w w' : World} {B g N : Nat} {L : List Int} {r : Option Nat} (h : Nums w B g N L) (hg : w.grownBy w' r) (hne : some g ≠ r) : Nums w' B g N L := World.ownsRow.kept h hg (.inr hne)
theorem emit_len (pos del : Nat) (ins : Ls) : (emit pos del ins).length ≤ 1 := by unfold emit; split <;> simp
theorem emitI_cast (f p i : Nat) (hp : p ≤ i) (I : Ls) : emitI ((f : Int) + p) ((i : Int) - p) I = emit (f + p) (i - p) I := by
  rw [← emitI_nat, Int.natCast_add, Int.ofNat_sub hp]
set_option maxHeartbeats 2000000 in
set_option maxRecDepth 100000 in
theorem walk_any (f : Nat) (x y : Ls) (A A' : Option Addr) (c c' : Nat) (P P' : Nat → Prop) (w : World) (hs : Vs w P A c (texts x)) (hs' : Vs w P' A' c' (texts y)) (hx : x.length ≤ 100000) (hy : y.length ≤ 100000)
    (hxy : (x.length + 1) * (y.length + 1) ≤ 1000000) (hf : f ≤ 1000000) :
    Calls Try.prog 76 #[.int .i64 (f : Int), .slice A x.length c, .slice A' y.length c'] w fun e w' => ∃ v, e = .returned v ∧ OwE w' w.heap.size v (go x y f 0 []) ∧ Below w.heap.size w w' := by
  have Hlo := hide (longest_any x y A A' c c' P P' w hs hs' hx hy hxy)
  have Hs := hide hs.bound
  have Hs' := hide hs'.bound
  have hcap := hs'.1
  rw [texts_len] at hcap
  obtain ⟨N, hN⟩ : ∃ N, N = (x.length + 1) * (y.length + 1) := ⟨_, rfl⟩
  have HN := hide hN
  obtain ⟨m, hm⟩ : ∃ m, m = x.length := ⟨_, rfl⟩
  obtain ⟨n, hn⟩ : ∃ n, n = y.length := ⟨_, rfl⟩
  rw [← hN] at hxy Hlo
  obtain ⟨W, hW⟩ : ∃ W, W = n + 1 := ⟨_, rfl⟩
  rw [← hm] at hx Hlo ⊢
  rw [← hn] at hy hcap Hlo ⊢
  rw [← hW] at Hlo
  have Hm := hide hm
  have Hn := hide hn
  have HW := hide hW
  clear hs hs' hN hm hn hW
  go_enter Try.func76, Try.ntmps76
  go_wp2_with fail
  refine Hlo.out.mono ?_
  rintro e w1 ⟨g, L, rfl, hnu, hfi, hb1⟩
  go_wp2
  have Hfi := hide hfi
  have hnu2 := hnu.kept ((Below.refl _ _).alloc (Nat.le_refl _) (.cells #[.int .i64 (W : Int), .slice (some ⟨g, 0, none⟩) N N] tT))
  have ht2 := Row.fresh w1 tT #[.int .i64 (W : Int), .slice (some ⟨g, 0, none⟩) N N]
  have hb2 := hb1.alloc hb1.size (.cells #[.int .i64 (W : Int), .slice (some ⟨g, 0, none⟩) N N] tT)
  obtain ⟨w2, hw2⟩ : ∃ w2, w2 = w1.alloc (.cells #[.int .i64 (W : Int), .slice (some ⟨g, 0, none⟩) N N] tT) := ⟨_, rfl⟩
  have hsz := hb1.size
  obtain ⟨gt, hgt⟩ : ∃ gt, gt = w1.heap.size := ⟨_, rfl⟩
  have hgg := hnu.lt
  rw [← hw2] at hnu2 ht2 hb2 ⊢
  rw [← hgt] at ht2 hsz hgg ⊢
  have Hne := hide (show g ≠ gt ∧ w.heap.size ≤ g ∧ w.heap.size ≤ gt by refine ⟨?_, ?_, ?_⟩ <;> omega)
  have Hnu2 := hide hnu2
  have Ht2 := hide ht2
  have Hb2 := hide hb2
  clear hnu hfi hb1 hnu2 ht2 hb2 hw2 hsz hgt hgg
  go_loopw [7, 9, 10, 11, 12] (fun v vi vj vp vq wr => ∃ (i j p q : Nat) (out : List Ed) (v0 : Value), v0 = v ∧ vi = .int .i64 i ∧ vj = .int .i64 j ∧ vp = .int .i64 p ∧ vq = .int .i64 q ∧ (i ≤ m ∧ j ≤ n ∧ p ≤ i ∧ q ≤ j ∧ out.length ≤ i) ∧
    out ++ go (x.drop i) (y.drop j) (f + p) (i - p) ((y.drop q).take (j - q)) = go x y f 0 [] ∧ OwE wr w.heap.size v0 out ∧ Nums wr w.heap.size g N L ∧ Row wr gt tT [.int .i64 (W : Int), .slice (some ⟨g, 0, none⟩) N N] ∧ Below w.heap.size w wr) (fun _ vi vj _ _ _ => m + n - (intOf vi).toNat - (intOf vj).toNat)
  case atStart => exact ⟨0, 0, 0, 0, [], _, rfl, rfl, rfl, rfl, rfl, ⟨by omega, by omega, by omega, by omega, by simp⟩, by simp, OwE.nil _ _, Hnu2.out, Ht2.out, Hb2.out⟩
  case round =>
    obtain ⟨i, j, p, q, out, v, rfl, rfl, rfl, rfl, rfl, ⟨hi, hj, hp, hq, hol⟩, hout, hown, hnu, hrt, hb⟩ := hrel
    have Hout := hide hout
    have Hown := hide hown
    have Hnu := hide hnu
    have Hrt := hide hrt
    have Hb := hide hb
    have ct0 := hrt.cell 0
    have ct1 := hrt.cell 1
    simp only [List.getElem?_cons_zero, List.getElem?_cons_succ] at ct0 ct1
    have hcut := fun w => run_cut2 w A' n c' q j hq (by omega)
    obtain ⟨A2, hA2⟩ : ∃ A2, (if c' = q then A' else A'.map (·.add q)) = A2 := ⟨_, rfl⟩
    have hvs := vs_cut Hs'.out (i := q) (j := j) hq (by have := Hn.out; omega)
    rw [hA2] at hvs
    simp only [hA2] at hcut
    have hlen : ((y.drop q).take (j - q)).length = j - q := by rw [List.length_take, List.length_drop]; have := Hn.out; omega
    rw [← hlen] at hcut
    obtain ⟨I, hI⟩ : ∃ I, I = (y.drop q).take (j - q) := ⟨_, rfl⟩
    rw [← hI] at hvs hlen hcut Hout
    have Hvs := hide (Lw.Vs.below hvs hb)
    have HI := hide hI
    have Hlen := hide hlen
    have Hcut := hide hcut
    clear hout hown hnu hrt hb hvs hA2 hI hlen hcut
    by_cases hi' : i < m
    · have di : decide (i < m) = true := decide_eq_true hi'
      by_cases hj' : j < n
      · have dj : decide (j < n) = true := decide_eq_true hj'
        have hjn : ((j : Int) == (n : Int)) = false := by rw [beq_eq_false_iff_ne]; omega
        obtain ⟨ba, oa, rfl, ca⟩ := Hs.out.text Hb.out (k := i) (by have := Hm.out; omega)
        obtain ⟨bb, ob, rfl, cb⟩ := Hs'.out.text Hb.out (k := j) (by have := Hn.out; omega)
        obtain ⟨X, hX⟩ : ∃ X, X = x.getD i [] := ⟨_, rfl⟩
        obtain ⟨Y, hY⟩ : ∃ Y, Y = y.getD j [] := ⟨_, rfl⟩
        rw [← hX] at ca
        rw [← hY] at cb
        by_cases hXY : X = Y
        · have hbq : (X == Y) = true := by rw [hXY]; exact beq_self_eq_true _
          have Hgo := hide (go_at_same (x := x) (y := y) (i := i) (j := j) (by have := Hm.out; omega) (by have := Hn.out; omega) (by rw [← hX, ← hY]; exact hXY) (f + p) (i - p) I)
          clear hX hY hXY
          go_wp2
          go_quiet (fail)
          have hown3 := Hown.out.drewN nq
          have hnu3 := Hnu.out.drewN nq
          have hrt3 := Hrt.out.drewN nq
          have hb3 := below_drewN Hb.out nq
          have hvs3 : Vs (wr.drewN nq) (fun b => b < w.heap.size) A2 (c' - q) (texts I) := Hvs.out
          obtain ⟨w3, hw3⟩ : ∃ w3, w3 = wr.drewN nq := ⟨_, rfl⟩
          rw [← hw3] at hown3 hnu3 hrt3 hb3 hvs3 ⊢
          have Hown3 := hide hown3
          have Hnu3 := hide hnu3
          have Hrt3 := hide hrt3
          have Hb3 := hide hb3
          have Hvs3 := hide hvs3
          clear ct0 ct1
          have ct0 := hrt3.cell 0
          have ct1 := hrt3.cell 1
          simp only [List.getElem?_cons_zero, List.getElem?_cons_succ] at ct0 ct1
          clear hown3 hnu3 hrt3 hb3 hvs3 hw3 Hown Hnu Hrt Hb Hvs
          clear ca cb
          have Hout2 := hide (show (out ++ emitI ((f : Int) + p) ((i : Int) - p) I) ++ go (x.drop (i + 1)) (y.drop (j + 1)) (f + (i + 1)) (i + 1 - (i + 1)) ((y.drop (j + 1)).take (j + 1 - (j + 1))) = go x y f 0 [] by
            rw [← Hout.out, Hgo.out, emitI_cast f p i hp, List.append_assoc, Nat.sub_self, Nat.sub_self, List.take_zero, show f + p + (i - p) + 1 = f + (i + 1) from by omega])
          have Hol := hide (show (out ++ emitI ((f : Int) + p) ((i : Int) - p) I).length ≤ i + 1 by
            rw [emitI_cast f p i hp, List.length_append]; have := emit_len (f + p) (i - p) I; omega)
          have hcut := Hcut.out
          go_wp2_with fail
          refine (add_any w.heap.size v out ((f : Int) + p) ((i : Int) - p) I A2 _ _ _ Hown3.out Hvs3.out Hb3.out.size (by omega) (by have := Hlen.out; omega)).mono ?_
          rintro e w4 ⟨v4, rfl, hown4, hb4, hg4⟩
          have Hown4 := hide hown4
          have Hnu4 := hide (Hnu3.out.grown hg4 (nums_ne Hnu3.out Hown3.out))
          have Hrt4 := hide (Hrt3.out.grown hg4 (row_ne Hrt3.out (by decide) Hown3.out))
          have Hb4 := hide (Hb3.out.trans hb4)
          clear hown4 hg4 hb4 hcut
          go_wp2
          exact ⟨⟨i + 1, j + 1, i + 1, j + 1, _, v4, rfl, by go_num, by go_num, by go_num, by go_num, ⟨by omega, by omega, by omega, by omega, Hol.out⟩, Hout2.out, Hown4.out, Hnu4.out, Hrt4.out, Hb4.out⟩, by simp [intOf]; omega⟩
        · have hbq : (X == Y) = false := by rw [beq_eq_false_iff_ne]; exact hXY
          rw [hX, hY] at hXY
          have Hne' := hide hXY
          clear hX hY hXY
          have hu := Hfi.out.all (i' := i + 1) (j' := j) (by have := Hm.out; omega) (by have := Hn.out; omega)
          have hv := Hfi.out.all (i' := i) (j' := j + 1) (by have := Hm.out; omega) (by have := Hn.out; omega)
          rw [← Hn.out, ← HW.out] at hu hv
          have hW6 : W ≤ 1000000 := by have := HW.out; omega
          have ix1 : (i + 1) * W + j < N := by rw [HN.out, ← Hm.out, ← Hn.out, ← HW.out]; exact idx_lt (by omega) (by have := HW.out; omega)
          have ix2 : i * W + (j + 1) < N := by rw [HN.out, ← Hm.out, ← Hn.out, ← HW.out]; exact idx_lt (by omega) (by have := HW.out; omega)
          have Hc1 := hide (fun (w1 : World) (h : Nums w1 w.heap.size g N L) => at_any w1 w.heap.size g N W (i + 1) j L h hxy hW6 (by omega) (by omega) ix1)
          have Hc2 := hide (fun (w1 : World) (h : Nums w1 w.heap.size g N L) => at_any w1 w.heap.size g N W i (j + 1) L h hxy hW6 (by omega) (by omega) ix2)
          rw [hu] at Hc1
          rw [hv] at Hc2
          obtain ⟨i1, hi1⟩ : ∃ i1, i1 = i + 1 := ⟨_, rfl⟩
          obtain ⟨j1, hj1⟩ : ∃ j1, j1 = j + 1 := ⟨_, rfl⟩
          have hw1 : IntKind.i64.wrap ((i : Int) + 1) = (i1 : Int) := by rw [IntWalk.i64_in _ (by omega)]; omega
          have hw2 : IntKind.i64.wrap ((j : Int) + 1) = (j1 : Int) := by rw [IntWalk.i64_in _ (by omega)]; omega
          rw [← hi1] at Hc1
          rw [← hj1] at Hc2
          have Hij := hide (show (i : Int) + 1 = i1 ∧ (j : Int) + 1 = j1 by constructor <;> omega)
          have Hl1 := hide (go_at_gone (x := x) (y := y) (i := i) (j := j) (by have := Hm.out; omega) · (f + p) (i - p) I)
          have Hl2 := hide (go_at_come (x := x) (y := y) (i := i) (j := j) (by have := Hn.out; omega) · (f + p) (i - p) I)
          rw [← hi1, ← hj1] at Hl1 Hl2
          have HL1 := hide (fun (h : lcs (x.drop i) (y.drop j1) ≤ lcs (x.drop i1) (y.drop j)) => Hl1.out (.inr ⟨by have := Hn.out; omega, Hne'.out, h⟩))
          have HL2 := hide (fun (h : ¬ lcs (x.drop i) (y.drop j1) ≤ lcs (x.drop i1) (y.drop j)) => Hl2.out (.inr ⟨by have := Hm.out; omega, Hne'.out, h⟩))
          clear Hl1 Hl2
          generalize lcs (x.drop i1) (y.drop j) = u at *
          generalize lcs (x.drop i) (y.drop j1) = z at *
          clear hu hv ix1 ix2
          go_wp2
          go_quiet (fail)
          have hown3 := Hown.out.drewN nq
          have hnu3 := Hnu.out.drewN nq
          have hrt3 := Hrt.out.drewN nq
          have hb3 := below_drewN Hb.out nq
          have hvs3 : Vs (wr.drewN nq) (fun b => b < w.heap.size) A2 (c' - q) (texts I) := Hvs.out
          obtain ⟨w3, hw3⟩ : ∃ w3, w3 = wr.drewN nq := ⟨_, rfl⟩
          rw [← hw3] at hown3 hnu3 hrt3 hb3 hvs3 ⊢
          have Hown3 := hide hown3
          have Hnu3 := hide hnu3
          have Hrt3 := hide hrt3
          have Hb3 := hide hb3
          have Hvs3 := hide hvs3
          clear ct0 ct1
          have ct0 := hrt3.cell 0
          have ct1 := hrt3.cell 1
          simp only [List.getElem?_cons_zero, List.getElem?_cons_succ] at ct0 ct1
          clear hown3 hnu3 hrt3 hb3 hvs3 hw3 Hown Hnu Hrt Hb Hvs
          clear ca cb Hcut
          by_cases hl : z ≤ u
          · have dl : decide (z ≤ u) = true := decide_eq_true hl
            have Hout2 := hide (show out ++ go (x.drop (i + 1)) (y.drop j) (f + p) (i + 1 - p) ((y.drop q).take (j - q)) = go x y f 0 [] by
              rw [← Hout.out, HL1.out hl, HI.out, show i + 1 - p = i - p + 1 from by omega, hi1])
            clear hi1 hj1
            go_wp2
            refine Rg.wp_region_ord (fun w' => w'.cell? ⟨gt, 0, none⟩ = some (.int .i64 (W : Int)) ∧ w'.cell? ⟨gt, 1, none⟩ = some (.slice (some ⟨g, 0, none⟩) N N)) [(0, true), (1, true), (2, true), (3, true), (4, true), (5, true), (6, true), (7, true), (8, true), (9, true), (10, true), (11, true), (12, true), (13, true), (15, true), (16, true), (17, true), (18, true), (14, false), (19, false), (20, true), (21, true), (22, true), (23, true)] (by kernel_rfl) (by kernel_rfl) ?_
            simp only [Rg.pick, List.map_cons, List.map_nil, List.getD_cons_zero, List.getD_cons_succ]
            iterate 5 (refine Rg.ord_quiet (v := ?_) rfl (fun w' hS => ?_) ⟨ct0, ct1⟩ ?_; rotate_left; (obtain ⟨s0, s1⟩ := hS; go_simp; with_reducible rfl); simp only [Act.put, List.setIfInBounds_toArray, List.set_cons_succ, List.set_cons_zero])
            iterate 5 (refine Rg.ord_guarded (v := ?_) (by rfl) (fun w' hS => ?_) ⟨ct0, ct1⟩ ?_; rotate_left; (obtain ⟨s0, s1⟩ := hS; go_simp; with_reducible rfl); simp only [Act.put, List.setIfInBounds_toArray, List.set_cons_succ, List.set_cons_zero])
            iterate 8 (refine Rg.ord_guarded (v := ?_) (by rfl) (fun w' hS => ?_) ⟨ct0, ct1⟩ ?_; rotate_left; (obtain ⟨s0, s1⟩ := hS; go_simp; with_reducible rfl); simp only [Act.put, List.setIfInBounds_toArray, List.set_cons_succ, List.set_cons_zero])
            refine Rg.ord_loud (by rfl) (fun K hK => ?_)
            go_simp
            refine (Hc1.out _ Hnu3.out.drew).mono ?_
            rintro e w4 ⟨rfl, hbx⟩
            have Hnu4 := hide (Hnu3.out.drew.kept hbx)
            have Hrt4 := hide (Hrt3.out.drew.below hbx Hrt3.out.lt)
            have Hown4 := hide (Hown3.out.drew.keep hbx)
            have Hb4 := hide (Hb3.out.drew.trans (hbx.mono Hb3.out.size))
            clear hbx ct0 ct1
            have ct0 := Hrt4.out.cell 0
            have ct1 := Hrt4.out.cell 1
            simp only [List.getElem?_cons_zero, List.getElem?_cons_succ] at ct0 ct1
            refine hK _ _ (fun _ => ⟨ct0, ct1⟩) ?_
            clear hK K
            refine Rg.ord_loud (by rfl) (fun K hK => ?_)
            go_simp
            refine (Hc2.out _ Hnu4.out).mono ?_
            rintro e w5 ⟨rfl, hbx⟩
            have Hnu5 := hide (Hnu4.out.kept hbx)
            have Hrt5 := hide (Hrt4.out.below hbx Hrt4.out.lt)
            have Hown5 := hide (Hown4.out.keep hbx)
            have Hb5 := hide (Hb4.out.trans (hbx.mono Hb4.out.size))
            clear hbx ct0 ct1
            have ct0 := Hrt5.out.cell 0
            have ct1 := Hrt5.out.cell 1
            simp only [List.getElem?_cons_zero, List.getElem?_cons_succ] at ct0 ct1
            refine hK _ _ (fun _ => ⟨ct0, ct1⟩) ?_
            clear hK K
            iterate 2 (refine Rg.ord_guarded (v := ?_) (by rfl) (fun w' hS => ?_) ⟨ct0, ct1⟩ ?_; rotate_left; (obtain ⟨s0, s1⟩ := hS; go_simp; with_reducible rfl); simp only [Act.put, List.setIfInBounds_toArray, List.set_cons_succ, List.set_cons_zero])
            iterate 2 (refine Rg.ord_quiet (v := ?_) rfl (fun w' hS => ?_) ⟨ct0, ct1⟩ ?_; rotate_left; (obtain ⟨s0, s1⟩ := hS; go_simp; with_reducible rfl); simp only [Act.put, List.setIfInBounds_toArray, List.set_cons_succ, List.set_cons_zero])
            refine Rg.ord_nil ?_
            clear hw1 hw2
            go_wp2
            exact ⟨⟨i + 1, j, p, q, out, v, rfl, by go_num, rfl, rfl, rfl, ⟨by omega, by omega, by omega, by omega, by omega⟩, Hout2.out, Hown5.out, Hnu5.out, Hrt5.out, Hb5.out⟩, by simp [intOf]; omega⟩
          · have dl : decide (z ≤ u) = false := decide_eq_false hl
            have Hout2 := hide (show out ++ go (x.drop i) (y.drop (j + 1)) (f + p) (i - p) ((y.drop q).take (j + 1 - q)) = go x y f 0 [] by
              rw [← Hout.out, HL2.out hl, HI.out, take_more y hq (by have := Hn.out; omega), hj1])
            clear hi1 hj1
            go_wp2
            refine Rg.wp_region_ord (fun w' => w'.cell? ⟨gt, 0, none⟩ = some (.int .i64 (W : Int)) ∧ w'.cell? ⟨gt, 1, none⟩ = some (.slice (some ⟨g, 0, none⟩) N N)) [(0, true), (1, true), (2, true), (3, true), (4, true), (5, true), (6, true), (7, true), (8, true), (9, true), (10, true), (11, true), (12, true), (13, true), (15, true), (16, true), (17, true), (18, true), (14, false), (19, false), (20, true), (21, true), (22, true), (23, true)] (by kernel_rfl) (by kernel_rfl) ?_
            simp only [Rg.pick, List.map_cons, List.map_nil, List.getD_cons_zero, List.getD_cons_succ]
            iterate 5 (refine Rg.ord_quiet (v := ?_) rfl (fun w' hS => ?_) ⟨ct0, ct1⟩ ?_; rotate_left; (obtain ⟨s0, s1⟩ := hS; go_simp; with_reducible rfl); simp only [Act.put, List.setIfInBounds_toArray, List.set_cons_succ, List.set_cons_zero])
            iterate 5 (refine Rg.ord_guarded (v := ?_) (by rfl) (fun w' hS => ?_) ⟨ct0, ct1⟩ ?_; rotate_left; (obtain ⟨s0, s1⟩ := hS; go_simp; with_reducible rfl); simp only [Act.put, List.setIfInBounds_toArray, List.set_cons_succ, List.set_cons_zero])
            iterate 8 (refine Rg.ord_guarded (v := ?_) (by rfl) (fun w' hS => ?_) ⟨ct0, ct1⟩ ?_; rotate_left; (obtain ⟨s0, s1⟩ := hS; go_simp; with_reducible rfl); simp only [Act.put, List.setIfInBounds_toArray, List.set_cons_succ, List.set_cons_zero])
            refine Rg.ord_loud (by rfl) (fun K hK => ?_)
            go_simp
            refine (Hc1.out _ Hnu3.out.drew).mono ?_
            rintro e w4 ⟨rfl, hbx⟩
            have Hnu4 := hide (Hnu3.out.drew.kept hbx)
            have Hrt4 := hide (Hrt3.out.drew.below hbx Hrt3.out.lt)
            have Hown4 := hide (Hown3.out.drew.keep hbx)
            have Hb4 := hide (Hb3.out.drew.trans (hbx.mono Hb3.out.size))
            clear hbx ct0 ct1
            have ct0 := Hrt4.out.cell 0
            have ct1 := Hrt4.out.cell 1
            simp only [List.getElem?_cons_zero, List.getElem?_cons_succ] at ct0 ct1
            refine hK _ _ (fun _ => ⟨ct0, ct1⟩) ?_
            clear hK K
            refine Rg.ord_loud (by rfl) (fun K hK => ?_)
            go_simp
            refine (Hc2.out _ Hnu4.out).mono ?_
            rintro e w5 ⟨rfl, hbx⟩
            have Hnu5 := hide (Hnu4.out.kept hbx)
            have Hrt5 := hide (Hrt4.out.below hbx Hrt4.out.lt)
            have Hown5 := hide (Hown4.out.keep hbx)
            have Hb5 := hide (Hb4.out.trans (hbx.mono Hb4.out.size))
            clear hbx ct0 ct1
            have ct0 := Hrt5.out.cell 0
            have ct1 := Hrt5.out.cell 1
            simp only [List.getElem?_cons_zero, List.getElem?_cons_succ] at ct0 ct1
            refine hK _ _ (fun _ => ⟨ct0, ct1⟩) ?_
            clear hK K
            iterate 2 (refine Rg.ord_guarded (v := ?_) (by rfl) (fun w' hS => ?_) ⟨ct0, ct1⟩ ?_; rotate_left; (obtain ⟨s0, s1⟩ := hS; go_simp; with_reducible rfl); simp only [Act.put, List.setIfInBounds_toArray, List.set_cons_succ, List.set_cons_zero])
            iterate 2 (refine Rg.ord_quiet (v := ?_) rfl (fun w' hS => ?_) ⟨ct0, ct1⟩ ?_; rotate_left; (obtain ⟨s0, s1⟩ := hS; go_simp; with_reducible rfl); simp only [Act.put, List.setIfInBounds_toArray, List.set_cons_succ, List.set_cons_zero])
            refine Rg.ord_nil ?_
            clear hw1 hw2
            go_wp2
            exact ⟨⟨i, j + 1, p, q, out, v, rfl, rfl, by go_num, rfl, rfl, ⟨by omega, by omega, by omega, by omega, by omega⟩, Hout2.out, Hown5.out, Hnu5.out, Hrt5.out, Hb5.out⟩, by simp [intOf]; omega⟩
      · have dj : decide (j < n) = false := decide_eq_false hj'
        obtain rfl : j = n := by omega
        have Hgo := hide (go_at_gone (x := x) (y := y) (i := i) (j := j) (by have := Hm.out; omega) (.inl (by have := Hn.out; omega)) (f + p) (i - p) I)
        have Hout2 := hide (show out ++ go (x.drop (i + 1)) (y.drop j) (f + p) (i + 1 - p) ((y.drop q).take (j - q)) = go x y f 0 [] by
          rw [← Hout.out, Hgo.out, HI.out, show i + 1 - p = i - p + 1 from by omega])
        go_wp2
        go_quiet (fail)
        have hown3 := Hown.out.drewN nq
        have hnu3 := Hnu.out.drewN nq
        have hrt3 := Hrt.out.drewN nq
        have hb3 := below_drewN Hb.out nq
        have hvs3 : Vs (wr.drewN nq) (fun b => b < w.heap.size) A2 (c' - q) (texts I) := Hvs.out
        obtain ⟨w3, hw3⟩ : ∃ w3, w3 = wr.drewN nq := ⟨_, rfl⟩
        rw [← hw3] at hown3 hnu3 hrt3 hb3 hvs3 ⊢
        have Hown3 := hide hown3
        have Hnu3 := hide hnu3
        have Hrt3 := hide hrt3
        have Hb3 := hide hb3
        have Hvs3 := hide hvs3
        clear ct0 ct1
        have ct0 := hrt3.cell 0
        have ct1 := hrt3.cell 1
        simp only [List.getElem?_cons_zero, List.getElem?_cons_succ] at ct0 ct1
        clear hown3 hnu3 hrt3 hb3 hvs3 hw3 Hown Hnu Hrt Hb Hvs
        clear Hcut
        go_wp2
        go_quiet (fail)
        go_wp2
        exact ⟨⟨i + 1, j, p, q, out, v, rfl, by go_num, rfl, rfl, rfl, ⟨by omega, by omega, by omega, by omega, by omega⟩, Hout2.out, Hown3.out.drewN _, Hnu3.out.drewN _, Hrt3.out.drewN _, below_drewN Hb3.out _⟩, by simp [intOf]; omega⟩
    · have di : decide (i < m) = false := decide_eq_false hi'
      obtain rfl : i = m := by omega
      by_cases hj' : j < n
      · have dj : decide (j < n) = true := decide_eq_true hj'
        have hjn : ((j : Int) == (n : Int)) = false := by rw [beq_eq_false_iff_ne]; omega
        have Hgo := hide (go_at_come (x := x) (y := y) (i := i) (j := j) (by have := Hn.out; omega) (.inl (by have := Hm.out; omega)) (f + p) (i - p) I)
        have Hout2 := hide (show out ++ go (x.drop i) (y.drop (j + 1)) (f + p) (i - p) ((y.drop q).take (j + 1 - q)) = go x y f 0 [] by
          rw [← Hout.out, Hgo.out, HI.out, take_more y hq (by have := Hn.out; omega)])
        go_wp2
        go_quiet (fail)
        have hown3 := Hown.out.drewN nq
        have hnu3 := Hnu.out.drewN nq
        have hrt3 := Hrt.out.drewN nq
        have hb3 := below_drewN Hb.out nq
        have hvs3 : Vs (wr.drewN nq) (fun b => b < w.heap.size) A2 (c' - q) (texts I) := Hvs.out
        obtain ⟨w3, hw3⟩ : ∃ w3, w3 = wr.drewN nq := ⟨_, rfl⟩
        rw [← hw3] at hown3 hnu3 hrt3 hb3 hvs3 ⊢
        have Hown3 := hide hown3
        have Hnu3 := hide hnu3
        have Hrt3 := hide hrt3
        have Hb3 := hide hb3
        have Hvs3 := hide hvs3
        clear ct0 ct1
        have ct0 := hrt3.cell 0
        have ct1 := hrt3.cell 1
        simp only [List.getElem?_cons_zero, List.getElem?_cons_succ] at ct0 ct1
        clear hown3 hnu3 hrt3 hb3 hvs3 hw3 Hown Hnu Hrt Hb Hvs
        clear Hcut
        go_wp2
        go_quiet (fail)
        go_wp2
        exact ⟨⟨i, j + 1, p, q, out, v, rfl, rfl, by go_num, rfl, rfl, ⟨by omega, by omega, by omega, by omega, by omega⟩, Hout2.out, Hown3.out.drewN _, Hnu3.out.drewN _, Hrt3.out.drewN _, below_drewN Hb3.out _⟩, by simp [intOf]; omega⟩
      · obtain rfl : j = n := by omega
        have Hout2 := hide (show out ++ emitI ((f : Int) + p) ((i : Int) - p) I = go x y f 0 [] by
          rw [← Hout.out, go_at_end (by have := Hm.out; omega) (by have := Hn.out; omega), emitI_cast f p i hp])
        have hcut := Hcut.out
        go_wp2_with fail
        refine (add_any w.heap.size v out ((f : Int) + p) ((i : Int) - p) I A2 _ _ _ Hown.out Hvs.out Hb.out.size (by omega) (by have := Hlen.out; omega)).mono ?_
        rintro e w4 ⟨v4, rfl, hown4, hb4, hg4⟩
        have Hown4 := hide hown4
        have Hnu4 := hide (Hnu.out.grown hg4 (nums_ne Hnu.out Hown.out))
        have Hrt4 := hide (Hrt.out.grown hg4 (row_ne Hrt.out (by decide) Hown.out))
        have Hb4 := hide (Hb.out.trans hb4)
        clear hown4 hg4 hb4 hcut
        go_wp2
        go_ret
        exact ⟨v4, rfl, by rw [← Hout2.out]; exact Hown4.out, Hb4.out⟩
end Go.Proofs.Ytghnieddokhagaa.Df
namespace Go.Proofs.Ytghnieddokhagaa.Df
open Go Go.RowKit Kt Lw Li

theorem D_walk (a b : Ls) (h : (mid a (fr a b) (bk a b)).length * (mid b (fr a b) (bk a b)).length ≤ 65536) : D a b = go (mid a (fr a b) (bk a b)) (mid b (fr a b) (bk a b)) (fr a b) 0 [] := if_pos h
theorem D_add (a b : Ls) (h : mid a (fr a b) (bk a b) = [] ∨ mid b (fr a b) (bk a b) = [] ∨ 65536 < (mid a (fr a b) (bk a b)).length * (mid b (fr a b) (bk a b)).length) :
    D a b = emitI (fr a b : Nat) ((mid a (fr a b) (bk a b)).length : Nat) (mid b (fr a b) (bk a b)) := by
  rw [emitI_nat]
  rcases h with h | h | h
  · unfold D; rw [h, if_pos (by simp), go_all_come]; rfl
  · unfold D; rw [h, if_pos (by simp), go_all_gone, Nat.zero_add]
  · unfold D; rw [if_neg (by omega)]
set_option maxHeartbeats 2000000 in
set_option maxRecDepth 100000 in
theorem diff_any (a b : Ls) (A A' : Option Addr) (c c' : Nat) (P P' : Nat → Prop) (w : World) (hs : Vs w P A c (texts a)) (hs' : Vs w P' A' c' (texts b)) (ha : a.length ≤ 1000) (hb : b.length ≤ 1000) :
    Calls Try.prog 56 #[.slice A a.length c, .slice A' b.length c'] w fun e w' => ∃ v, e = .returned v ∧ OwE w' w.heap.size v (D a b) ∧ Below w.heap.size w w' := by
  have Hs := hide hs.bound
  have Hs' := hide hs'.bound
  have hcap := hs.1
  have hcap' := hs'.1
  rw [texts_len] at hcap hcap'
  obtain ⟨m, hm⟩ : ∃ m, m = a.length := ⟨_, rfl⟩
  obtain ⟨n, hn⟩ : ∃ n, n = b.length := ⟨_, rfl⟩
  rw [← hm] at ha hcap ⊢
  rw [← hn] at hb hcap' ⊢
  have Hm := hide hm
  have Hn := hide hn
  obtain ⟨K, hK⟩ : ∃ K, K = min m n := ⟨_, rfl⟩
  have Hk := hide hK
  clear hs hs' hm hn hK
  go_enter Try.func56, Try.ntmps56
  have hmin : (if n < m then (n : Int) else (m : Int)) = (K : Int) := by have := Hk.out; split <;> omega
  have hb1 := ((Below.refl _ w).alloc (Nat.le_refl _) (.cells #[.slice A m c] 25)).alloc (by simp) (.cells #[.slice A' n c'] 25)
  have h1 := (((Row.fresh w 25 #[.slice A m c]).alloc (.cells #[.slice A' n c'] 25)).cell 0)
  have h2 := (Row.fresh (w.alloc (.cells #[.slice A m c] 25)) 25 #[.slice A' n c']).cell 0
  rw [World.size_alloc] at h2
  simp only [List.getElem?_cons_zero] at h1 h2
  have Hv2 := hide (vs_keep Hs.out hb1)
  have Hv2' := hide (vs_keep Hs'.out hb1)
  go_wp2_with fail
  obtain ⟨w2, hw2⟩ : ∃ w2, w2 = (w.alloc (.cells #[.slice A m c] 25)).alloc (.cells #[.slice A' n c'] 25) := ⟨_, rfl⟩
  obtain ⟨g, hg⟩ : ∃ g, g = w.heap.size := ⟨_, rfl⟩
  obtain ⟨g', hg'⟩ : ∃ g', g' = w.heap.size + 1 := ⟨_, rfl⟩
  rw [← hw2] at hb1 h1 h2 Hv2 Hv2' ⊢
  rw [← hg'] at h2 ⊢
  rw [← hg] at h1 ⊢
  have Hb1 := hide hb1
  have Hg := hide hg
  clear hw2 hg hg' hb1 hmin
  have hmK : K ≤ m := by have := Hk.out; omega
  have hnK : K ≤ n := by have := Hk.out; omega
  refine (alike_front a b A A' c c' K g g' w2 (by rw [← Hm.out]; exact h1) (by rw [← Hn.out]; exact h2) Hv2.out Hv2'.out (by rw [← Hm.out]; exact hmK) (by rw [← Hn.out]; exact hnK) (by rw [← Hm.out]; omega) (by rw [← Hn.out]; omega)).mono ?_
  rintro e w3 ⟨⟨f, rfl, hrun⟩, nq, rfl⟩
  have Hf := hide (hrun.uniq (by rw [Hk.out, Hm.out, Hn.out]; exact fr_is a b))
  have hfK := hrun.le
  obtain ⟨K2, hK2⟩ : ∃ K2, K2 = K - f := ⟨_, rfl⟩
  have hKf : (K : Int) - (f : Int) = (K2 : Int) := by omega
  have HK2 := hide hK2
  clear hrun hK2
  go_wp2_with fail
  refine (alike_back a b A A' c c' K2 g g' (w2.drewN nq) (by rw [← Hm.out]; exact h1) (by rw [← Hn.out]; exact h2) Hv2.out Hv2'.out (by rw [← Hm.out]; omega) (by rw [← Hn.out]; omega) (by rw [← Hm.out]; omega) (by rw [← Hn.out]; omega)).mono ?_
  rintro _ w4 ⟨⟨e, rfl, hrun⟩, nq2, rfl⟩
  have hK2 := HK2.out
  have He := hide (hrun.uniq (by rw [hK2, Hk.out, Hm.out, Hn.out, Hf.out]; exact bk_is a b))
  have heK := hrun.le
  obtain ⟨w4, hw4⟩ : ∃ w4, w4 = (w2.drewN nq).drewN nq2 := ⟨_, rfl⟩
  have h1' : w4.cell? ⟨g, 0, none⟩ = some (.slice A m c) := by rw [hw4]; exact h1
  have h2' : w4.cell? ⟨g', 0, none⟩ = some (.slice A' n c') := by rw [hw4]; exact h2
  have Hb4 := hide (show Below w.heap.size w w4 by rw [hw4]; exact below_drewN (below_drewN Hb1.out _) _)
  rw [← hw4]
  obtain ⟨me, hme⟩ : ∃ me, me = m - e := ⟨_, rfl⟩
  obtain ⟨ne, hne⟩ : ∃ ne, ne = n - e := ⟨_, rfl⟩
  have hw1 : IntKind.i64.wrap ((m : Int) - e) = (me : Int) := by rw [IntWalk.i64_in _ (by omega)]; omega
  have hw2 : IntKind.i64.wrap ((n : Int) - e) = (ne : Int) := by rw [IntWalk.i64_in _ (by omega)]; omega
  have hcut := fun w => run_cut2 w A m c f me (by omega) (by omega)
  have hcut' := fun w => run_cut2 w A' n c' f ne (by omega) (by omega)
  obtain ⟨A2, hA2⟩ : ∃ A2, (if c = f then A else A.map (·.add f)) = A2 := ⟨_, rfl⟩
  obtain ⟨A2', hA2'⟩ : ∃ A2', (if c' = f then A' else A'.map (·.add f)) = A2' := ⟨_, rfl⟩
  have hvX := vs_cut Hs.out (i := f) (j := me) (by omega) (by rw [← Hm.out]; omega)
  have hvY := vs_cut Hs'.out (i := f) (j := ne) (by omega) (by rw [← Hn.out]; omega)
  rw [hA2] at hvX
  rw [hA2'] at hvY
  simp only [hA2] at hcut
  simp only [hA2'] at hcut'
  obtain ⟨X, hX⟩ : ∃ X, X = mid a f e := ⟨_, rfl⟩
  obtain ⟨Y, hY⟩ : ∃ Y, Y = mid b f e := ⟨_, rfl⟩
  have hlX : X.length = me - f := by rw [hX, mid_len _ _ _ (by rw [← Hm.out]; omega), ← Hm.out, hme]
  have hlY : Y.length = ne - f := by rw [hY, mid_len _ _ _ (by rw [← Hn.out]; omega), ← Hn.out, hne]
  rw [show (a.drop f).take (me - f) = X by rw [hX, mid, ← Hm.out, hme]] at hvX
  rw [show (b.drop f).take (ne - f) = Y by rw [hY, mid, ← Hn.out, hne]] at hvY
  rw [← hlX] at hcut
  rw [← hlY] at hcut'
  have hX6 : X.length ≤ 1000 := by omega
  have hY6 : Y.length ≤ 1000 := by omega
  have hf6 : f ≤ 1000 := by omega
  have HX := hide hX
  have HY := hide hY
  have hem : e ≤ m := by omega
  have hen : e ≤ n := by omega
  clear hrun hw4 hme hne hA2 hA2' hX hY hlX hlY h1 h2 hK2 heK hfK hKf hmK hnK
  go_wp2
  go_quiet (fail)
  have Hb5 := hide (below_drewN Hb4.out nq)
  obtain ⟨w5, hw5⟩ : ∃ w5, w5 = w4.drewN nq := ⟨_, rfl⟩
  rw [← hw5] at Hb5 ⊢
  have HvX := hide (Lw.Vs.below hvX Hb5.out)
  have HvY := hide (Lw.Vs.below hvY Hb5.out)
  clear hw5 hvX hvY hw1 hw2 hcut hcut' h1' h2'
  have H0 : ∀ l : Ls, ((l.length : Int) == 0) = decide (l = []) := by
    intro l
    rw [Bool.eq_iff_iff, beq_iff_eq, decide_eq_true_iff]
    exact ⟨fun h => List.eq_nil_of_length_eq_zero (by omega), fun h => by rw [h]; rfl⟩
  by_cases hx0 : X = []
  · have dx : ((X.length : Int) == 0) = true := by rw [H0, decide_eq_true hx0]
    have HD := hide (D_add a b (by rw [← Hf.out, ← He.out, ← HX.out, ← HY.out]; exact .inl hx0))
    rw [← Hf.out, ← He.out, ← HX.out, ← HY.out] at HD
    clear H0 hx0
    go_wp2_with fail
    refine (add_any w.heap.size (.slice none 0 0) [] f X.length Y A2' _ _ _ (OwE.nil _ _) HvY.out Hb5.out.size (by simp) (by omega)).mono ?_
    rintro e w6 ⟨v, rfl, hown, hb6, _⟩
    rw [List.nil_append, ← HD.out] at hown
    have Hown := hide hown
    have Hb6 := hide (Hb5.out.trans hb6)
    clear hown hb6
    go_wp2
    go_ret
    exact ⟨v, rfl, Hown.out, Hb6.out⟩
  have dx : ((X.length : Int) == 0) = false := by rw [H0, decide_eq_false hx0]
  by_cases hy0 : Y = []
  · have dy : ((Y.length : Int) == 0) = true := by rw [H0, decide_eq_true hy0]
    have HD := hide (D_add a b (by rw [← Hf.out, ← He.out, ← HX.out, ← HY.out]; exact .inr (.inl hy0)))
    rw [← Hf.out, ← He.out, ← HX.out, ← HY.out] at HD
    clear H0 hx0 hy0
    go_wp2_with fail
    refine (add_any w.heap.size (.slice none 0 0) [] f X.length Y A2' _ _ _ (OwE.nil _ _) HvY.out Hb5.out.size (by simp) (by omega)).mono ?_
    rintro e w6 ⟨v, rfl, hown, hb6, _⟩
    rw [List.nil_append, ← HD.out] at hown
    have Hown := hide hown
    have Hb6 := hide (Hb5.out.trans hb6)
    clear hown hb6
    go_wp2
    go_ret
    exact ⟨v, rfl, Hown.out, Hb6.out⟩
  have dy : ((Y.length : Int) == 0) = false := by rw [H0, decide_eq_false hy0]
  clear hx0 hy0 H0
  obtain ⟨Q, hQ⟩ : ∃ Q, Q = X.length * Y.length := ⟨_, rfl⟩
  have hQ' : (X.length : Int) * (Y.length : Int) = (Q : Int) := by rw [hQ]; simp
  have hQ6 : Q ≤ 1000000 := by rw [hQ]; exact Nat.le_trans (mul_le hX6 hY6) (by omega)
  by_cases hq : 65536 < Q
  · have dq : decide (65536 < (Q : Int)) = true := by simp; omega
    have HD := hide (D_add a b (by rw [← Hf.out, ← He.out, ← HX.out, ← HY.out]; exact .inr (.inr (by rw [← hQ]; exact hq))))
    rw [← Hf.out, ← He.out, ← HX.out, ← HY.out] at HD
    clear hQ hq
    go_wp2_with fail
    refine (add_any w.heap.size (.slice none 0 0) [] f X.length Y A2' _ _ _ (OwE.nil _ _) HvY.out Hb5.out.size (by simp) (by omega)).mono ?_
    rintro e w6 ⟨v, rfl, hown, hb6, _⟩
    rw [List.nil_append, ← HD.out] at hown
    have Hown := hide hown
    have Hb6 := hide (Hb5.out.trans hb6)
    clear hown hb6
    go_wp2
    go_ret
    exact ⟨v, rfl, Hown.out, Hb6.out⟩
  · have dq : decide (65536 < (Q : Int)) = false := by simp; omega
    have HD := hide (D_walk a b (by rw [← Hf.out, ← He.out, ← HX.out, ← HY.out, ← hQ]; omega))
    rw [← Hf.out, ← He.out, ← HX.out, ← HY.out] at HD
    have hXY : (X.length + 1) * (Y.length + 1) ≤ 1000000 := by
      rw [Nat.succ_mul, Nat.mul_succ, ← hQ]; omega
    clear hQ hq
    go_wp2_with fail
    refine (walk_any f X Y A2 A2' _ _ _ _ _ HvX.out HvY.out (by omega) (by omega) hXY (by omega)).mono ?_
    rintro e w6 ⟨v, rfl, hown, hb6⟩
    rw [← HD.out] at hown
    have Hown := hide (hown.base (B' := w.heap.size) Hb5.out.size)
    have Hb6 := hide (Hb5.out.trans (hb6.mono Hb5.out.size))
    clear hown hb6
    go_wp2
    go_ret
    exact ⟨v, rfl, Hown.out, Hb6.out⟩
end Go.Proofs.Ytghnieddokhagaa.Df
namespace Go.Proofs.Ytghnieddokhagaa.Df
open Go Go.RowKit Kt Lw Li

theorem cell_keep {w w' : World} {p : Addr} {v : Value} (hb : Below w.heap.size w w') (hc : w.cell? p = some v) : w'.cell? p = some v :=
  (World.cell?_of_block (hb.block p.block (World.block_lt_of_cell? w p hc))).trans hc
end Go.Proofs.Ytghnieddokhagaa.Df
