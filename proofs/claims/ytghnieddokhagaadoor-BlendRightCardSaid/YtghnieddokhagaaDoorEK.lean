/-
  diff.walk.
-/
import Derived.Test.YtghnieddokhagaaDoorQEG
namespace Go.Proofs.YtghnieddokhagaaDoor.Df
open Go Go.RowKit Kt Lw Li

theorem go_at_end {x y : Ls} {i j : Nat} (hi : x.length ≤ i) (hj : y.length ≤ j) (pos del : Nat) (ins : Ls) : go (x.drop i) (y.drop j) pos del ins = emit pos del ins := by
  rw [List.drop_of_length_le hi, List.drop_of_length_le hj, go_nil]
theorem go_at_same {x y : Ls} {i j : Nat} (hi : i < x.length) (hj : j < y.length) (h : x.getD i [] = y.getD j []) (pos del : Nat) (ins : Ls) :
    go (x.drop i) (y.drop j) pos del ins = emit pos del ins ++ go (x.drop (i + 1)) (y.drop (j + 1)) (pos + del + 1) 0 [] := by
  rw [drop_getD_cons x i hi, drop_getD_cons y j hj, go_both, if_pos h]
theorem go_at_gone {x y : Ls} {i j : Nat} (hi : i < x.length) (h : y.length ≤ j ∨ (j < y.length ∧ x.getD i [] ≠ y.getD j [] ∧ lcs (x.drop i) (y.drop (j + 1)) ≤ lcs (x.drop (i + 1)) (y.drop j))) (pos del : Nat) (ins : Ls) :
    go (x.drop i) (y.drop j) pos del ins = go (x.drop (i + 1)) (y.drop j) pos (del + 1) ins := by
  rcases h with h | ⟨hj, hne, hl⟩
  · rw [List.drop_of_length_le h, drop_getD_cons x i hi, go_gone]
  · rw [drop_getD_cons x i hi, drop_getD_cons y j hj] at *
    rw [go_both, if_neg hne, if_pos hl]
theorem go_at_come {x y : Ls} {i j : Nat} (hj : j < y.length) (h : x.length ≤ i ∨ (i < x.length ∧ x.getD i [] ≠ y.getD j [] ∧ ¬ lcs (x.drop i) (y.drop (j + 1)) ≤ lcs (x.drop (i + 1)) (y.drop j))) (pos del : Nat) (ins : Ls) :
    go (x.drop i) (y.drop j) pos del ins = go (x.drop i) (y.drop (j + 1)) pos del (ins ++ [y.getD j []]) := by
  rcases h with h | ⟨hi, hne, hl⟩
  · rw [List.drop_of_length_le h, drop_getD_cons y j hj, go_come]
  · rw [drop_getD_cons x i hi, drop_getD_cons y j hj] at *
    rw [go_both, if_neg hne, if_neg hl]
theorem take_more (y : Ls) {q j : Nat} (hq : q ≤ j) (hj : j < y.length) : (y.drop q).take (j + 1 - q) = (y.drop q).take (j - q) ++ [y.getD j []] := by
  rw [show j + 1 - q = j - q + 1 from by omega, List.take_add_one, List.getElem?_drop, show q + (j - q) = j from by omega]
  simp [List.getElem?_eq_getElem hj]

theorem Filled.all {x y : Ls} {L : List Int} (h : Filled x y 0 0 L) {i' j' : Nat} (hi : i' ≤ x.length) (hj : j' ≤ y.length) : L.getD (i' * (y.length + 1) + j') 0 = (lcs (x.drop i') (y.drop j') : Nat) := by
  refine h i' j' hi hj ?_
  rcases Nat.eq_zero_or_pos i' with h0 | h0
  · exact .inr (.inr ⟨h0.symm, Nat.zero_le _⟩)
  · exact .inl h0
theorem row_ne {w : World} {B g : Nat} {t : TypeId} {cs : List Value} {v : Value} {L : List Ed} (h : Row w g t cs) (ht : t ≠ tE) (k : OwE w B v L) : some g ≠ v.ownBlock := by
  obtain ⟨V, _, hr, _⟩ := k
  intro e
  rcases hr.2 with ⟨rfl, _⟩ | ⟨g', cap', cur', rfl, _, hgg', _⟩
  · cases e
  · simp only [Value.ownBlock, Option.some.injEq] at e
    subst e
    unfold Row at h
    rw [hgg'] at h
    simp at h
    exact ht h.2.symm
theorem nums_ne {w : World} {B B' g N : Nat} {v : Value} {L : List Ed} {l : List Int} (h : Nums w B' g N l) (k : OwE w B v L) : some g ≠ v.ownBlock := by
  rcases h.2 with ⟨e, _⟩ | ⟨g', cap', cur', e, _, hgg', _⟩
  · cases e
  · simp only [Value.slice.injEq, Option.some.injEq, Addr.mk.injEq, and_true, true_and] at e
    obtain ⟨rfl, _⟩ := e
    exact row_ne (cs := cur'.toList) (t := tI) (by unfold Row; simpa using hgg') (by decide) k
theorem Nums.grown {w w' : World} {B g N : Nat} {L : List Int} {r : Option Nat} (h : Nums w B g N L) (hg : w.grownBy w' r) (hne : some g ≠ r) : Nums w' B g N L := World.ownsRow.kept h hg (.inr hne)
theorem emit_len (pos del : Nat) (ins : Ls) : (emit pos del ins).length ≤ 1 := by unfold emit; split <;> simp
theorem emitI_cast (f p i : Nat) (hp : p ≤ i) (I : Ls) : emitI ((f : Int) + p) ((i : Int) - p) I = emit (f + p) (i - p) I := by
  rw [← emitI_nat, Int.natCast_add, Int.ofNat_sub hp]
set_option maxHeartbeats 2000000 in
set_option maxRecDepth 100000 in
theorem walk_any (f : Nat) (x y : Ls) (A A' : Option Addr) (c c' : Nat) (P P' : Nat → Prop) (w : World) (hs : Vs w P A c (texts x)) (hs' : Vs w P' A' c' (texts y)) (hx : x.length ≤ 100000) (hy : y.length ≤ 100000)
    (hxy : (x.length + 1) * (y.length + 1) ≤ 1000000) (hf : f ≤ 1000000) :
    Calls Tryd.prog 71 #[.int .i64 (f : Int), .slice A x.length c, .slice A' y.length c'] w fun e w' => ∃ v, e = .returned v ∧ OwE w' w.heap.size v (go x y f 0 []) ∧ Below w.heap.size w w' := by
  have Hlo := hide (longest_any x y A A' c c' P P' w hs hs' hx hy hxy)
  have Hs := hide hs.bound
  have Hs' := hide hs'.bound
  have hcap := hs'.1
  rw [texts_len] at hcap
  obtain ⟨N, hN⟩ : ∃ N, N = (x.length + 1) * (y.length + 1) := ⟨_, rfl⟩
  have HN := hide hN
  obtain ⟨m, hm⟩ : ∃ m, m = x.length := ⟨_, rfl⟩
  obtain ⟨n, hn⟩ : ∃ n, n = y.length := ⟨_, rfl⟩
  rw [← hN] at hxy Hlo
  obtain ⟨W, hW⟩ : ∃ W, W = n + 1 := ⟨_, rfl⟩
  rw [← hm] at hx Hlo ⊢
  rw [← hn] at hy hcap Hlo ⊢
  rw [← hW] at Hlo
  have Hm := hide hm
  have Hn := hide hn
  have HW := hide hW
  clear hs hs' hN hm hn hW
  go_enter Tryd.func71, Tryd.ntmps71
  go_wp2_with fail
  refine Hlo.out.mono ?_
  rintro e w1 ⟨g, L, rfl, hnu, hfi, hb1⟩
  go_wp2
  have Hfi := hide hfi
  have hnu2 := hnu.kept ((Below.refl _ _).alloc (Nat.le_refl _) (.cells #[.int .i64 (W : Int), .slice (some ⟨g, 0, none⟩) N N] tT))
  have ht2 := Row.fresh w1 tT #[.int .i64 (W : Int), .slice (some ⟨g, 0, none⟩) N N]
  have hb2 := hb1.alloc hb1.size (.cells #[.int .i64 (W : Int), .slice (some ⟨g, 0, none⟩) N N] tT)
  obtain ⟨w2, hw2⟩ : ∃ w2, w2 = w1.alloc (.cells #[.int .i64 (W : Int), .slice (some ⟨g, 0, none⟩) N N] tT) := ⟨_, rfl⟩
  have hsz := hb1.size
  obtain ⟨gt, hgt⟩ : ∃ gt, gt = w1.heap.size := ⟨_, rfl⟩
  have hgg := hnu.lt
  rw [← hw2] at hnu2 ht2 hb2 ⊢
  rw [← hgt] at ht2 hsz hgg ⊢
  have Hne := hide (show g ≠ gt ∧ w.heap.size ≤ g ∧ w.heap.size ≤ gt by refine ⟨?_, ?_, ?_⟩ <;> omega)
  have Hnu2 := hide hnu2
  have Ht2 := hide ht2
  have Hb2 := hide hb2
  clear hnu hfi hb1 hnu2 ht2 hb2 hw2 hsz hgt hgg
  go_loopw [7, 9, 10, 11, 12] (fun v vi vj vp vq wr => ∃ (i j p q : Nat) (out : List Ed) (v0 : Value), v0 = v ∧ vi = .int .i64 i ∧ vj = .int .i64 j ∧ vp = .int .i64 p ∧ vq = .int .i64 q ∧ (i ≤ m ∧ j ≤ n ∧ p ≤ i ∧ q ≤ j ∧ out.length ≤ i) ∧
    out ++ go (x.drop i) (y.drop j) (f + p) (i - p) ((y.drop q).take (j - q)) = go x y f 0 [] ∧ OwE wr w.heap.size v0 out ∧ Nums wr w.heap.size g N L ∧ Row wr gt tT [.int .i64 (W : Int), .slice (some ⟨g, 0, none⟩) N N] ∧ Below w.heap.size w wr) (fun _ vi vj _ _ _ => m + n - (intOf vi).toNat - (intOf vj).toNat)
  case atStart => exact ⟨0, 0, 0, 0, [], _, rfl, rfl, rfl, rfl, rfl, ⟨by omega, by omega, by omega, by omega, by simp⟩, by simp, OwE.nil _ _, Hnu2.out, Ht2.out, Hb2.out⟩
  case round =>
    obtain ⟨i, j, p, q, out, v, rfl, rfl, rfl, rfl, rfl, ⟨hi, hj, hp, hq, hol⟩, hout, hown, hnu, hrt, hb⟩ := hrel
    have Hout := hide hout
    have Hown := hide hown
    have Hnu := hide hnu
    have Hrt := hide hrt
    have Hb := hide hb
    have ct0 := hrt.cell 0
    have ct1 := hrt.cell 1
    simp only [List.getElem?_cons_zero, List.getElem?_cons_succ] at ct0 ct1
    have hcut := fun w => run_cut2 w A' n c' q j hq (by omega)
    obtain ⟨A2, hA2⟩ : ∃ A2, (if c' = q then A' else A'.map (·.add q)) = A2 := ⟨_, rfl⟩
    have hvs := vs_cut Hs'.out (i := q) (j := j) hq (by have := Hn.out; omega)
    rw [hA2] at hvs
    simp only [hA2] at hcut
    have hlen : ((y.drop q).take (j - q)).length = j - q := by rw [List.length_take, List.length_drop]; have := Hn.out; omega
    rw [← hlen] at hcut
    obtain ⟨I, hI⟩ : ∃ I, I = (y.drop q).take (j - q) := ⟨_, rfl⟩
    rw [← hI] at hvs hlen hcut Hout
    have Hvs := hide (Lw.Vs.below hvs hb)
    have HI := hide hI
    have Hlen := hide hlen
    have Hcut := hide hcut
    clear hout hown hnu hrt hb hvs hA2 hI hlen hcut
    by_cases hi' : i < m
    · have di : decide (i < m) = true := decide_eq_true hi'
      by_cases hj' : j < n
      · have dj : decide (j < n) = true := decide_eq_true hj'
        have hjn : ((j : Int) == (n : Int)) = false := by rw [beq_eq_false_iff_ne]; omega
        obtain ⟨ba, oa, rfl, ca⟩ := Hs.out.text Hb.out (k := i) (by have := Hm.out; omega)
        obtain ⟨bb, ob, rfl, cb⟩ := Hs'.out.text Hb.out (k := j) (by have := Hn.out; omega)
        obtain ⟨X, hX⟩ : ∃ X, X = x.getD i [] := ⟨_, rfl⟩
        obtain ⟨Y, hY⟩ : ∃ Y, Y = y.getD j [] := ⟨_, rfl⟩
        rw [← hX] at ca
        rw [← hY] at cb
        by_cases hXY : X = Y
        · have hbq : (X == Y) = true := by rw [hXY]; exact beq_self_eq_true _
          have Hgo := hide (go_at_same (x := x) (y := y) (i := i) (j := j) (by have := Hm.out; omega) (by have := Hn.out; omega) (by rw [← hX, ← hY]; exact hXY) (f + p) (i - p) I)
          clear hX hY hXY
          go_wp2
          go_quiet (fail)
          have hown3 := Hown.out.drewN nq
          have hnu3 := Hnu.out.drewN nq
          have hrt3 := Hrt.out.drewN nq
          have hb3 := below_drewN Hb.out nq
          have hvs3 : Vs (wr.drewN nq) (fun b => b < w.heap.size) A2 (c' - q) (texts I) := Hvs.out
          obtain ⟨w3, hw3⟩ : ∃ w3, w3 = wr.drewN nq := ⟨_, rfl⟩
          rw [← hw3] at hown3 hnu3 hrt3 hb3 hvs3 ⊢
          have Hown3 := hide hown3
          have Hnu3 := hide hnu3
          have Hrt3 := hide hrt3
          have Hb3 := hide hb3
          have Hvs3 := hide hvs3
          clear ct0 ct1
          have ct0 := hrt3.cell 0
          have ct1 := hrt3.cell 1
          simp only [List.getElem?_cons_zero, List.getElem?_cons_succ] at ct0 ct1
          clear hown3 hnu3 hrt3 hb3 hvs3 hw3 Hown Hnu Hrt Hb Hvs
          clear ca cb
          have Hout2 := hide (show (out ++ emitI ((f : Int) + p) ((i : Int) - p) I) ++ go (x.drop (i + 1)) (y.drop (j + 1)) (f + (i + 1)) (i + 1 - (i + 1)) ((y.drop (j + 1)).take (j + 1 - (j + 1))) = go x y f 0 [] by
            rw [← Hout.out, Hgo.out, emitI_cast f p i hp, List.append_assoc, Nat.sub_self, Nat.sub_self, List.take_zero, show f + p + (i - p) + 1 = f + (i + 1) from by omega])
          have Hol := hide (show (out ++ emitI ((f : Int) + p) ((i : Int) - p) I).length ≤ i + 1 by
            rw [emitI_cast f p i hp, List.length_append]; have := emit_len (f + p) (i - p) I; omega)
          have hcut := Hcut.out
          go_wp2_with fail
          refine (add_any w.heap.size v out ((f : Int) + p) ((i : Int) - p) I A2 _ _ _ Hown3.out Hvs3.out Hb3.out.size (by omega) (by have := Hlen.out; omega)).mono ?_
          rintro e w4 ⟨v4, rfl, hown4, hb4, hg4⟩
          have Hown4 := hide hown4
          have Hnu4 := hide (Hnu3.out.grown hg4 (nums_ne Hnu3.out Hown3.out))
          have Hrt4 := hide (Hrt3.out.grown hg4 (row_ne Hrt3.out (by decide) Hown3.out))
          have Hb4 := hide (Hb3.out.trans hb4)
          clear hown4 hg4 hb4 hcut
          go_wp2
          exact ⟨⟨i + 1, j + 1, i + 1, j + 1, _, v4, rfl, by go_num, by go_num, by go_num, by go_num, ⟨by omega, by omega, by omega, by omega, Hol.out⟩, Hout2.out, Hown4.out, Hnu4.out, Hrt4.out, Hb4.out⟩, by simp [intOf]; omega⟩
        · have hbq : (X == Y) = false := by rw [beq_eq_false_iff_ne]; exact hXY
          rw [hX, hY] at hXY
          have Hne' := hide hXY
          clear hX hY hXY
          have hu := Hfi.out.all (i' := i + 1) (j' := j) (by have := Hm.out; omega) (by have := Hn.out; omega)
          have hv := Hfi.out.all (i' := i) (j' := j + 1) (by have := Hm.out; omega) (by have := Hn.out; omega)
          rw [← Hn.out, ← HW.out] at hu hv
          have hW6 : W ≤ 1000000 := by have := HW.out; omega
          have ix1 : (i + 1) * W + j < N := by rw [HN.out, ← Hm.out, ← Hn.out, ← HW.out]; exact idx_lt (by omega) (by have := HW.out; omega)
          have ix2 : i * W + (j + 1) < N := by rw [HN.out, ← Hm.out, ← Hn.out, ← HW.out]; exact idx_lt (by omega) (by have := HW.out; omega)
          have Hc1 := hide (fun (w1 : World) (h : Nums w1 w.heap.size g N L) => at_any w1 w.heap.size g N W (i + 1) j L h hxy hW6 (by omega) (by omega) ix1)
          have Hc2 := hide (fun (w1 : World) (h : Nums w1 w.heap.size g N L) => at_any w1 w.heap.size g N W i (j + 1) L h hxy hW6 (by omega) (by omega) ix2)
          rw [hu] at Hc1
          rw [hv] at Hc2
          obtain ⟨i1, hi1⟩ : ∃ i1, i1 = i + 1 := ⟨_, rfl⟩
          obtain ⟨j1, hj1⟩ : ∃ j1, j1 = j + 1 := ⟨_, rfl⟩
          have hw1 : IntKind.i64.wrap ((i : Int) + 1) = (i1 : Int) := by rw [IntWalk.i64_in _ (by omega)]; omega
          have hw2 : IntKind.i64.wrap ((j : Int) + 1) = (j1 : Int) := by rw [IntWalk.i64_in _ (by omega)]; omega
          rw [← hi1] at Hc1
          rw [← hj1] at Hc2
          have Hij := hide (show (i : Int) + 1 = i1 ∧ (j : Int) + 1 = j1 by constructor <;> omega)
          have Hl1 := hide (go_at_gone (x := x) (y := y) (i := i) (j := j) (by have := Hm.out; omega) · (f + p) (i - p) I)
          have Hl2 := hide (go_at_come (x := x) (y := y) (i := i) (j := j) (by have := Hn.out; omega) · (f + p) (i - p) I)
          rw [← hi1, ← hj1] at Hl1 Hl2
          have HL1 := hide (fun (h : lcs (x.drop i) (y.drop j1) ≤ lcs (x.drop i1) (y.drop j)) => Hl1.out (.inr ⟨by have := Hn.out; omega, Hne'.out, h⟩))
          have HL2 := hide (fun (h : ¬ lcs (x.drop i) (y.drop j1) ≤ lcs (x.drop i1) (y.drop j)) => Hl2.out (.inr ⟨by have := Hm.out; omega, Hne'.out, h⟩))
          clear Hl1 Hl2
          generalize lcs (x.drop i1) (y.drop j) = u at *
          generalize lcs (x.drop i) (y.drop j1) = z at *
          clear hu hv ix1 ix2
          go_wp2
          go_quiet (fail)
          have hown3 := Hown.out.drewN nq
          have hnu3 := Hnu.out.drewN nq
          have hrt3 := Hrt.out.drewN nq
          have hb3 := below_drewN Hb.out nq
          have hvs3 : Vs (wr.drewN nq) (fun b => b < w.heap.size) A2 (c' - q) (texts I) := Hvs.out
          obtain ⟨w3, hw3⟩ : ∃ w3, w3 = wr.drewN nq := ⟨_, rfl⟩
          rw [← hw3] at hown3 hnu3 hrt3 hb3 hvs3 ⊢
          have Hown3 := hide hown3
          have Hnu3 := hide hnu3
          have Hrt3 := hide hrt3
          have Hb3 := hide hb3
          have Hvs3 := hide hvs3
          clear ct0 ct1
          have ct0 := hrt3.cell 0
          have ct1 := hrt3.cell 1
          simp only [List.getElem?_cons_zero, List.getElem?_cons_succ] at ct0 ct1
          clear hown3 hnu3 hrt3 hb3 hvs3 hw3 Hown Hnu Hrt Hb Hvs
          clear ca cb Hcut
          by_cases hl : z ≤ u
          · have dl : decide (z ≤ u) = true := decide_eq_true hl
            have Hout2 := hide (show out ++ go (x.drop (i + 1)) (y.drop j) (f + p) (i + 1 - p) ((y.drop q).take (j - q)) = go x y f 0 [] by
              rw [← Hout.out, HL1.out hl, HI.out, show i + 1 - p = i - p + 1 from by omega, hi1])
            clear hi1 hj1
            go_wp2
            refine Rg.wp_region_ord (fun w' => w'.cell? ⟨gt, 0, none⟩ = some (.int .i64 (W : Int)) ∧ w'.cell? ⟨gt, 1, none⟩ = some (.slice (some ⟨g, 0, none⟩) N N)) [(0, true), (1, true), (2, true), (3, true), (4, true), (5, true), (6, true), (7, true), (8, true), (9, true), (10, true), (11, true), (12, true), (13, true), (15, true), (16, true), (17, true), (18, true), (14, false), (19, false), (20, true), (21, true), (22, true), (23, true)] (by kernel_rfl) (by kernel_rfl) ?_
            simp only [Rg.pick, List.map_cons, List.map_nil, List.getD_cons_zero, List.getD_cons_succ]
            iterate 5 (refine Rg.ord_quiet (v := ?_) rfl (fun w' hS => ?_) ⟨ct0, ct1⟩ ?_; rotate_left; (obtain ⟨s0, s1⟩ := hS; go_simp; with_reducible rfl); simp only [Act.put, List.setIfInBounds_toArray, List.set_cons_succ, List.set_cons_zero])
            iterate 5 (refine Rg.ord_guarded (v := ?_) (by rfl) (fun w' hS => ?_) ⟨ct0, ct1⟩ ?_; rotate_left; (obtain ⟨s0, s1⟩ := hS; go_simp; with_reducible rfl); simp only [Act.put, List.setIfInBounds_toArray, List.set_cons_succ, List.set_cons_zero])
            iterate 8 (refine Rg.ord_guarded (v := ?_) (by rfl) (fun w' hS => ?_) ⟨ct0, ct1⟩ ?_; rotate_left; (obtain ⟨s0, s1⟩ := hS; go_simp; with_reducible rfl); simp only [Act.put, List.setIfInBounds_toArray, List.set_cons_succ, List.set_cons_zero])
            refine Rg.ord_loud (by rfl) (fun K hK => ?_)
            go_simp
            refine (Hc1.out _ Hnu3.out.drew).mono ?_
            rintro e w4 ⟨rfl, hbx⟩
            have Hnu4 := hide (Hnu3.out.drew.kept hbx)
            have Hrt4 := hide (Hrt3.out.drew.below hbx Hrt3.out.lt)
            have Hown4 := hide (Hown3.out.drew.keep hbx)
            have Hb4 := hide (Hb3.out.drew.trans (hbx.mono Hb3.out.size))
            clear hbx ct0 ct1
            have ct0 := Hrt4.out.cell 0
            have ct1 := Hrt4.out.cell 1
            simp only [List.getElem?_cons_zero, List.getElem?_cons_succ] at ct0 ct1
            refine hK _ _ (fun _ => ⟨ct0, ct1⟩) ?_
            clear hK K
            refine Rg.ord_loud (by rfl) (fun K hK => ?_)
            go_simp
            refine (Hc2.out _ Hnu4.out).mono ?_
            rintro e w5 ⟨rfl, hbx⟩
            have Hnu5 := hide (Hnu4.out.kept hbx)
            have Hrt5 := hide (Hrt4.out.below hbx Hrt4.out.lt)
            have Hown5 := hide (Hown4.out.keep hbx)
            have Hb5 := hide (Hb4.out.trans (hbx.mono Hb4.out.size))
            clear hbx ct0 ct1
            have ct0 := Hrt5.out.cell 0
            have ct1 := Hrt5.out.cell 1
            simp only [List.getElem?_cons_zero, List.getElem?_cons_succ] at ct0 ct1
            refine hK _ _ (fun _ => ⟨ct0, ct1⟩) ?_
            clear hK K
            iterate 2 (refine Rg.ord_guarded (v := ?_) (by rfl) (fun w' hS => ?_) ⟨ct0, ct1⟩ ?_; rotate_left; (obtain ⟨s0, s1⟩ := hS; go_simp; with_reducible rfl); simp only [Act.put, List.setIfInBounds_toArray, List.set_cons_succ, List.set_cons_zero])
            iterate 2 (refine Rg.ord_quiet (v := ?_) rfl (fun w' hS => ?_) ⟨ct0, ct1⟩ ?_; rotate_left; (obtain ⟨s0, s1⟩ := hS; go_simp; with_reducible rfl); simp only [Act.put, List.setIfInBounds_toArray, List.set_cons_succ, List.set_cons_zero])
            refine Rg.ord_nil ?_
            clear hw1 hw2
            go_wp2
            exact ⟨⟨i + 1, j, p, q, out, v, rfl, by go_num, rfl, rfl, rfl, ⟨by omega, by omega, by omega, by omega, by omega⟩, Hout2.out, Hown5.out, Hnu5.out, Hrt5.out, Hb5.out⟩, by simp [intOf]; omega⟩
          · have dl : decide (z ≤ u) = false := decide_eq_false hl
            have Hout2 := hide (show out ++ go (x.drop i) (y.drop (j + 1)) (f + p) (i - p) ((y.drop q).take (j + 1 - q)) = go x y f 0 [] by
              rw [← Hout.out, HL2.out hl, HI.out, take_more y hq (by have := Hn.out; omega), hj1])
            clear hi1 hj1
            go_wp2
            refine Rg.wp_region_ord (fun w' => w'.cell? ⟨gt, 0, none⟩ = some (.int .i64 (W : Int)) ∧ w'.cell? ⟨gt, 1, none⟩ = some (.slice (some ⟨g, 0, none⟩) N N)) [(0, true), (1, true), (2, true), (3, true), (4, true), (5, true), (6, true), (7, true), (8, true), (9, true), (10, true), (11, true), (12, true), (13, true), (15, true), (16, true), (17, true), (18, true), (14, false), (19, false), (20, true), (21, true), (22, true), (23, true)] (by kernel_rfl) (by kernel_rfl) ?_
            simp only [Rg.pick, List.map_cons, List.map_nil, List.getD_cons_zero, List.getD_cons_succ]
            iterate 5 (refine Rg.ord_quiet (v := ?_) rfl (fun w' hS => ?_) ⟨ct0, ct1⟩ ?_; rotate_left; (obtain ⟨s0, s1⟩ := hS; go_simp; with_reducible rfl); simp only [Act.put, List.setIfInBounds_toArray, List.set_cons_succ, List.set_cons_zero])
            iterate 5 (refine Rg.ord_guarded (v := ?_) (by rfl) (fun w' hS => ?_) ⟨ct0, ct1⟩ ?_; rotate_left; (obtain ⟨s0, s1⟩ := hS; go_simp; with_reducible rfl); simp only [Act.put, List.setIfInBounds_toArray, List.set_cons_succ, List.set_cons_zero])
            iterate 8 (refine Rg.ord_guarded (v := ?_) (by rfl) (fun w' hS => ?_) ⟨ct0, ct1⟩ ?_; rotate_left; (obtain ⟨s0, s1⟩ := hS; go_simp; with_reducible rfl); simp only [Act.put, List.setIfInBounds_toArray, List.set_cons_succ, List.set_cons_zero])
            refine Rg.ord_loud (by rfl) (fun K hK => ?_)
            go_simp
            refine (Hc1.out _ Hnu3.out.drew).mono ?_
            rintro e w4 ⟨rfl, hbx⟩
            have Hnu4 := hide (Hnu3.out.drew.kept hbx)
            have Hrt4 := hide (Hrt3.out.drew.below hbx Hrt3.out.lt)
            have Hown4 := hide (Hown3.out.drew.keep hbx)
            have Hb4 := hide (Hb3.out.drew.trans (hbx.mono Hb3.out.size))
            clear hbx ct0 ct1
            have ct0 := Hrt4.out.cell 0
            have ct1 := Hrt4.out.cell 1
            simp only [List.getElem?_cons_zero, List.getElem?_cons_succ] at ct0 ct1
            refine hK _ _ (fun _ => ⟨ct0, ct1⟩) ?_
            clear hK K
            refine Rg.ord_loud (by rfl) (fun K hK => ?_)
            go_simp
            refine (Hc2.out _ Hnu4.out).mono ?_
            rintro e w5 ⟨rfl, hbx⟩
            have Hnu5 := hide (Hnu4.out.kept hbx)
            have Hrt5 := hide (Hrt4.out.below hbx Hrt4.out.lt)
            have Hown5 := hide (Hown4.out.keep hbx)
            have Hb5 := hide (Hb4.out.trans (hbx.mono Hb4.out.size))
            clear hbx ct0 ct1
            have ct0 := Hrt5.out.cell 0
            have ct1 := Hrt5.out.cell 1
            simp only [List.getElem?_cons_zero, List.getElem?_cons_succ] at ct0 ct1
            refine hK _ _ (fun _ => ⟨ct0, ct1⟩) ?_
            clear hK K
            iterate 2 (refine Rg.ord_guarded (v := ?_) (by rfl) (fun w' hS => ?_) ⟨ct0, ct1⟩ ?_; rotate_left; (obtain ⟨s0, s1⟩ := hS; go_simp; with_reducible rfl); simp only [Act.put, List.setIfInBounds_toArray, List.set_cons_succ, List.set_cons_zero])
            iterate 2 (refine Rg.ord_quiet (v := ?_) rfl (fun w' hS => ?_) ⟨ct0, ct1⟩ ?_; rotate_left; (obtain ⟨s0, s1⟩ := hS; go_simp; with_reducible rfl); simp only [Act.put, List.setIfInBounds_toArray, List.set_cons_succ, List.set_cons_zero])
            refine Rg.ord_nil ?_
            clear hw1 hw2
            go_wp2
            exact ⟨⟨i, j + 1, p, q, out, v, rfl, rfl, by go_num, rfl, rfl, ⟨by omega, by omega, by omega, by omega, by omega⟩, Hout2.out, Hown5.out, Hnu5.out, Hrt5.out, Hb5.out⟩, by simp [intOf]; omega⟩
      · have dj : decide (j < n) = false := decide_eq_false hj'
        obtain rfl : j = n := by omega
        have Hgo := hide (go_at_gone (x := x) (y := y) (i := i) (j := j) (by have := Hm.out; omega) (.inl (by have := Hn.out; omega)) (f + p) (i - p) I)
        have Hout2 := hide (show out ++ go (x.drop (i + 1)) (y.drop j) (f + p) (i + 1 - p) ((y.drop q).take (j - q)) = go x y f 0 [] by
          rw [← Hout.out, Hgo.out, HI.out, show i + 1 - p = i - p + 1 from by omega])
        go_wp2
        go_quiet (fail)
        have hown3 := Hown.out.drewN nq
        have hnu3 := Hnu.out.drewN nq
        have hrt3 := Hrt.out.drewN nq
        have hb3 := below_drewN Hb.out nq
        have hvs3 : Vs (wr.drewN nq) (fun b => b < w.heap.size) A2 (c' - q) (texts I) := Hvs.out
        obtain ⟨w3, hw3⟩ : ∃ w3, w3 = wr.drewN nq := ⟨_, rfl⟩
        rw [← hw3] at hown3 hnu3 hrt3 hb3 hvs3 ⊢
        have Hown3 := hide hown3
        have Hnu3 := hide hnu3
        have Hrt3 := hide hrt3
        have Hb3 := hide hb3
        have Hvs3 := hide hvs3
        clear ct0 ct1
        have ct0 := hrt3.cell 0
        have ct1 := hrt3.cell 1
        simp only [List.getElem?_cons_zero, List.getElem?_cons_succ] at ct0 ct1
        clear hown3 hnu3 hrt3 hb3 hvs3 hw3 Hown Hnu Hrt Hb Hvs
        clear Hcut
        go_wp2
        go_quiet (fail)
        go_wp2
        exact ⟨⟨i + 1, j, p, q, out, v, rfl, by go_num, rfl, rfl, rfl, ⟨by omega, by omega, by omega, by omega, by omega⟩, Hout2.out, Hown3.out.drewN _, Hnu3.out.drewN _, Hrt3.out.drewN _, below_drewN Hb3.out _⟩, by simp [intOf]; omega⟩
    · have di : decide (i < m) = false := decide_eq_false hi'
      obtain rfl : i = m := by omega
      by_cases hj' : j < n
      · have dj : decide (j < n) = true := decide_eq_true hj'
        have hjn : ((j : Int) == (n : Int)) = false := by rw [beq_eq_false_iff_ne]; omega
        have Hgo := hide (go_at_come (x := x) (y := y) (i := i) (j := j) (by have := Hn.out; omega) (.inl (by have := Hm.out; omega)) (f + p) (i - p) I)
        have Hout2 := hide (show out ++ go (x.drop i) (y.drop (j + 1)) (f + p) (i - p) ((y.drop q).take (j + 1 - q)) = go x y f 0 [] by
          rw [← Hout.out, Hgo.out, HI.out, take_more y hq (by have := Hn.out; omega)])
        go_wp2
        go_quiet (fail)
        have hown3 := Hown.out.drewN nq
        have hnu3 := Hnu.out.drewN nq
        have hrt3 := Hrt.out.drewN nq
        have hb3 := below_drewN Hb.out nq
        have hvs3 : Vs (wr.drewN nq) (fun b => b < w.heap.size) A2 (c' - q) (texts I) := Hvs.out
        obtain ⟨w3, hw3⟩ : ∃ w3, w3 = wr.drewN nq := ⟨_, rfl⟩
        rw [← hw3] at hown3 hnu3 hrt3 hb3 hvs3 ⊢
        have Hown3 := hide hown3
        have Hnu3 := hide hnu3
        have Hrt3 := hide hrt3
        have Hb3 := hide hb3
        have Hvs3 := hide hvs3
        clear ct0 ct1
        have ct0 := hrt3.cell 0
        have ct1 := hrt3.cell 1
        simp only [List.getElem?_cons_zero, List.getElem?_cons_succ] at ct0 ct1
        clear hown3 hnu3 hrt3 hb3 hvs3 hw3 Hown Hnu Hrt Hb Hvs
        clear Hcut
        go_wp2
        go_quiet (fail)
        go_wp2
        exact ⟨⟨i, j + 1, p, q, out, v, rfl, rfl, by go_num, rfl, rfl, ⟨by omega, by omega, by omega, by omega, by omega⟩, Hout2.out, Hown3.out.drewN _, Hnu3.out.drewN _, Hrt3.out.drewN _, below_drewN Hb3.out _⟩, by simp [intOf]; omega⟩
      · obtain rfl : j = n := by omega
        have Hout2 := hide (show out ++ emitI ((f : Int) + p) ((i : Int) - p) I = go x y f 0 [] by
          rw [← Hout.out, go_at_end (by have := Hm.out; omega) (by have := Hn.out; omega), emitI_cast f p i hp])
        have hcut := Hcut.out
        go_wp2_with fail
        refine (add_any w.heap.size v out ((f : Int) + p) ((i : Int) - p) I A2 _ _ _ Hown.out Hvs.out Hb.out.size (by omega) (by have := Hlen.out; omega)).mono ?_
        rintro e w4 ⟨v4, rfl, hown4, hb4, hg4⟩
        have Hown4 := hide hown4
        have Hnu4 := hide (Hnu.out.grown hg4 (nums_ne Hnu.out Hown.out))
        have Hrt4 := hide (Hrt.out.grown hg4 (row_ne Hrt.out (by decide) Hown.out))
        have Hb4 := hide (Hb.out.trans hb4)
        clear hown4 hg4 hb4 hcut
        go_wp2
        go_ret
        exact ⟨v4, rfl, by rw [← Hout2.out]; exact Hown4.out, Hb4.out⟩
end Go.Proofs.YtghnieddokhagaaDoor.Df
