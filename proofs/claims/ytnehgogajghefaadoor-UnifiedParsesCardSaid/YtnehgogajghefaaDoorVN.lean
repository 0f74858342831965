/-
  The reference's head in memory: its numbers.
-/
import Derived.Test.YtnehgogajghefaaDoorVL
import Derived.Test.YtnehgogajghefaaDoorKN
import Derived.Test.YtnehgogajghefaaDoorUJ
import Derived.Test.YtnehgogajghefaaDoorRegC
namespace Go.Proofs.YtnehgogajghefaaDoor.Un
open Go Go.RowKit Kt Lw Li Df Hu

/-- the numbers behind the signs that are left -/
def rrest : List (List UInt8) → List Nat → List UInt8 → Option (List Nat × List UInt8)
  | [], ns, r => some (ns, r)
  | v :: vs, ns, r => match rstep v r with
    | none => none
    | some (u, r) => rrest vs (ns ++ [u]) r
def sgnL : List (List UInt8) := [opensB, [44], plusB, [44]]
def hof (n0 n1 n2 n3 : Nat) (r : List UInt8) : Option Hk :=
  if r = closesB ∧ ¬ ((n0 = 0 ∧ 0 < n1) ∨ (n2 = 0 ∧ 0 < n3)) then some ⟨lowP n0 n1, n1, lowP n2 n3, n3, []⟩ else none
theorem rhead_rest (x : List UInt8) : rhead x = match rrest sgnL [] x with
    | none => none
    | some (ns, r) => hof (ns.getD 0 0) (ns.getD 1 0) (ns.getD 2 0) (ns.getD 3 0) r := by
  unfold rhead sgnL
  simp only [rrest]
  cases rstep opensB x with
  | none => rfl
  | some p =>
    obtain ⟨n0, r0⟩ := p
    simp only
    cases rstep [44] r0 with
    | none => rfl
    | some p =>
      obtain ⟨n1, r1⟩ := p
      simp only
      cases rstep plusB r1 with
      | none => rfl
      | some p =>
        obtain ⟨n2, r2⟩ := p
        simp only
        cases rstep [44] r2 with
        | none => rfl
        | some p =>
          obtain ⟨n3, r3⟩ := p
          rfl
abbrev tI : TypeId := 3
theorem infoInt : (Tryd.prog.info? tI).map (fun i => (i.zero, i.size, i.bytes)) = some (some (.int .i64 0), 1, 8) := by kernel_rfl
def zeroH : List Value := [.int .i64 0, .int .i64 0, .int .i64 0, .int .i64 0, .slice none 0 0]
/-- what head answers -/
def headV (h : Option Hk) : Value := match h with
  | none => .tuple #[.agg zeroH.toArray, .bool false]
  | some h => .tuple #[.agg #[.int .i64 h.a, .int .i64 h.an, .int .i64 h.b, .int .i64 h.bn, .slice none 0 0], .bool true]
theorem sgn_drop {i : Nat} (h : i < 4) : sgnL.drop i = sgnL.getD i [] :: sgnL.drop (i + 1) := by
  rw [List.drop_eq_getElem_cons (by simpa [sgnL] using h), List.getD_eq_getElem?_getD, List.getElem?_eq_getElem (by simpa [sgnL] using h)]; rfl
theorem sgn_at {i : Nat} (h : i < 4) : (texts sgnL)[i]? = some (.string ⟨(sgnL.getD i []).toArray⟩) := texts_at sgnL i h
theorem sgn_len {i : Nat} (h : i < 4) : (sgnL.getD i []).length ≤ 4 := by
  rcases (by omega : i = 0 ∨ i = 1 ∨ i = 2 ∨ i = 3) with rfl | rfl | rfl | rfl <;> decide
theorem rword_if (v r : List UInt8) : rword v r = if v <+: r then some (r.drop v.length) else none := rfl
set_option maxRecDepth 100000 in
set_option maxHeartbeats 4000000 in
theorem refHead_any (s : List UInt8) (w : World) (hl : s.length ≤ 1000000) :
    Calls Tryd.prog 13 #[.string ⟨s.toArray⟩] w fun y w' => y = .returned (headV (rhead s)) ∧ Below w.heap.size w w' := by
  have Hl := hide hl
  have Hrr := hide (rhead_rest s)
  have Hsz := hide (Hu.size_of s)
  obtain ⟨X, hX⟩ : ∃ X, X = rrest sgnL [] s := ⟨_, rfl⟩
  rw [← hX] at Hrr
  have HX := hide hX
  obtain ⟨q, hq⟩ : ∃ q, q = w.heap.size := ⟨_, rfl⟩
  obtain ⟨w1, hw1⟩ : ∃ w1, w1 = (w.alloc (.cells zeroH.toArray tH)).alloc (.cells (texts sgnL).toArray tS) := ⟨_, rfl⟩
  have Hb0 := hide (show Below q w w1 by rw [hw1]; exact (((hq ▸ Below.refl _ w : Below q w w)).alloc (by omega) _).alloc (by simp; omega) _)
  have Hr0 := hide (show Row w1 q tH zeroH by rw [hw1, hq]; exact (Row.fresh w tH zeroH.toArray).alloc _)
  have Hr1 := hide (show Row w1 (q + 1) tS (texts sgnL) by rw [hw1, hq]; exact Row.new _ _ (by simp) rfl)
  have Hw1 := hide (show w1.heap.size = q + 2 by rw [hw1]; simp; omega)
  clear hX hl
  go_enter Tryd.func13, Tryd.ntmps13
  go_wp2
  rw [show (w.alloc (Obj.cells #[Value.int IntKind.i64 0, Value.int IntKind.i64 0, Value.int IntKind.i64 0, Value.int IntKind.i64 0, Value.slice none 0 0] tH)).alloc (Obj.cells #[Value.string { data := #[64, 64, 32, 45] }, Value.string { data := #[44] }, Value.string { data := #[32, 43] }, Value.string { data := #[44] }] tS) = w1 from hw1.symm, ← hq]
  have Hq := hide hq
  have Hq := hide hq
  have Hq := hide hq
  have Hq := hide hq
  have Hq := hide hq
  have Hq := hide hq
  clear hw1 hq
  go_loopw [4, 5, 7] (fun nv av iv wr => ∃ (i t : Nat) (ns : List Nat) (Z : List Int) (v0 : Value), v0 = nv ∧ i ≤ 4 ∧ t ≤ s.length ∧ av = .int .i64 t ∧ iv = .int .i64 i ∧ Hid (ns.length = i ∧ Z = ns.map (fun u : Nat => (u : Int)) ∧ rrest (sgnL.drop i) ns (s.drop t) = X ∧ (∀ u ∈ ns, u < 2147483648)) ∧ Hid (OwN wr (q + 2) tI v0 Z) ∧ Hid (Below (q + 2) w1 wr)) (fun _ _ iv _ => 4 - (intOf iv).toNat)
  case atStart => exact ⟨0, 0, [], [], _, rfl, by omega, Nat.zero_le _, rfl, rfl, ⟨rfl, rfl, HX.out.symm, fun u h => by cases h⟩, OwN.nil _ _ _, hide (by have := Below.refl w1.heap.size w1; rwa [Hw1.out] at this)⟩
  case round =>
    obtain ⟨i, t, ns, Z, v, rfl, hi, ht, rfl, rfl, Hns, Hown, Hb⟩ := hrel
    by_cases hlt : i < 4
    · have hc : wr.cell? ⟨q + 1, i, none⟩ = some (.string ⟨(sgnL.getD i []).toArray⟩) := by
        rw [(Hr1.out.below Hb.out (by omega)).cell, sgn_at hlt]
      have hvl := sgn_len hlt
      obtain ⟨V, hV⟩ : ∃ V, V = sgnL.getD i [] := ⟨_, rfl⟩
      rw [← hV] at hc hvl
      have Hd := hide (show sgnL.drop i = V :: sgnL.drop (i + 1) by rw [hV]; exact sgn_drop hlt)
      have Hbw := hide (show Below q w wr from Hb0.out.trans (Hb.out.mono (by omega)))
      clear hV
      by_cases hp : V <+: s.drop t
      · have hlen : t + V.length ≤ s.length := by
          have := hp.length_le
          rw [List.length_drop] at this
          omega
        have HW := hide (word_any s V t wr Hl.out ht (by omega) ((t + V.length : Nat) : Int) (if_pos hp).symm)
        have HN := hide (refNumber_any s (t + V.length) wr Hl.out hlen)
        rw [← List.drop_drop] at HN
        have Hst := hide (show rstep V (s.drop t) = rnum ((s.drop t).drop V.length) by rw [rstep, rword_if, if_pos hp])
        obtain ⟨k, hk⟩ : ∃ k, k = t + V.length := ⟨_, rfl⟩
        rw [← hk] at HW HN hlen
        clear hk hp
        have e1 : decide ((k : Int) < 0) = false := decide_eq_false (by omega)
        cases hn : rnum ((s.drop t).drop V.length) with
        | none =>
          rw [hn] at HN Hst
          have HF := hide (show rhead s = none by
            rw [Hrr.out, ← Hns.out.2.2.1, Hd.out, rrest, Hst.out])
          clear hn
          go_wp2_with fail
          refine HW.out.mono ?_
          rintro y w2 ⟨rfl, rfl⟩
          go_wp2_with fail
          refine HN.out.mono ?_
          rintro y w3 ⟨rfl, rfl⟩
          clear hc
          have hr0 : Row w3 q tH [.int .i64 0, .int .i64 0, .int .i64 0, .int .i64 0, .slice none 0 0] := Hr0.out.below Hb.out (by omega)
          have z0 := hr0.cell 0
          have z1 := hr0.cell 1
          have z2 := hr0.cell 2
          have z3 := hr0.cell 3
          have z4 := hr0.cell 4
          simp only [List.getElem?_cons_zero, List.getElem?_cons_succ] at z0 z1 z2 z3 z4
          have y0 := hr0.free 0
          have y1 := hr0.free 1
          have y2 := hr0.free 2
          have y3 := hr0.free 3
          have y4 := hr0.free 4
          go_wp2
          have hrf := ((((hr0.put 0 (.int .i64 0)).put 1 (.int .i64 0)).put 2 (.int .i64 0)).put 3 (.int .i64 0)).put 4 (.slice none 0 0)
          simp only [List.set_cons_zero, List.set_cons_succ] at hrf
          have hbf := ((((Hbw.out.setCell (p := ⟨q, 0, none⟩) (Nat.le_refl q) (.int .i64 0)).setCell (p := ⟨q, 1, none⟩) (Nat.le_refl q) (.int .i64 0)).setCell (p := ⟨q, 2, none⟩) (Nat.le_refl q) (.int .i64 0)).setCell (p := ⟨q, 3, none⟩) (Nat.le_refl q) (.int .i64 0)).setCell (p := ⟨q, 4, none⟩) (Nat.le_refl q) (.slice none 0 0)
          unfold Row at hrf
          refine bodyPost_ret (results_ct rfl _ _ q tH _ (0, 0) _ rfl hrf Tryd.underlying31 rfl sizeHk) rfl ⟨by rw [HF.out]; rfl, by rw [← Hq.out]; exact hbf⟩
        | some p =>
          obtain ⟨u, r'⟩ := p
          rw [hn] at HN Hst
          have Hu := hide (rnum_some hn).2
          have Hne := hide (show rrest (sgnL.drop (i + 1)) (ns ++ [u]) r' = X by
            rw [← Hns.out.2.2.1, Hd.out, rrest, Hst.out])
          clear hn
          go_wp2_with fail
          refine HW.out.mono ?_
          rintro y w2 ⟨rfl, rfl⟩
          go_wp2_with fail
          refine HN.out.mono ?_
          rintro y w3 ⟨rfl, e, rfl, he, hre⟩
          have Hre := hide hre
          have hu := Hu.out
          have e2 : decide ((u : Int) < 0) = false := decide_eq_false (by omega)
          clear hre hc
          go_wp2_with (refine wpList_pushN rfl (.tmp 35) (.tmp 37) _ rfl Tryd.underlying57 infoInt (q + 2) w1 v Z (u : Int) _ rfl rfl rfl Hown.out (by rw [Hns.out.2.1, List.length_map, Hns.out.1]; omega) Hb.out (by have := Hb.out.size; have := Hw1.out; omega) ?_; intro v4 w4 hown4 hb4 _; have Hown4 := hide hown4; have Hb4 := hide hb4; clear hown4 hb4)
          refine ⟨⟨i + 1, e, ns ++ [u], Z ++ [(u : Int)], _, rfl, by omega, he, rfl, by go_num, ⟨by rw [List.length_append, Hns.out.1]; rfl, by rw [Hns.out.2.1, List.map_append]; rfl, by rw [Hre.out]; exact Hne.out, fun x hx => ?_⟩, Hown4, Hb4⟩, by simp [intOf]; omega⟩
          rcases List.mem_append.1 hx with hx | hx
          · exact Hns.out.2.2.2 x hx
          · rw [List.mem_singleton.1 hx]; exact Hu.out
      · have HW := hide (word_any s V t wr Hl.out ht (by omega) (-1) (if_neg hp).symm)
        have HF := hide (show rhead s = none by
          rw [Hrr.out, ← Hns.out.2.2.1, Hd.out, rrest, rstep, rword_if, if_neg hp])
        clear hp
        go_wp2_with fail
        refine HW.out.mono ?_
        rintro y w3 ⟨rfl, rfl⟩
        clear hc
        have hr0 : Row w3 q tH [.int .i64 0, .int .i64 0, .int .i64 0, .int .i64 0, .slice none 0 0] := Hr0.out.below Hb.out (by omega)
        have z0 := hr0.cell 0
        have z1 := hr0.cell 1
        have z2 := hr0.cell 2
        have z3 := hr0.cell 3
        have z4 := hr0.cell 4
        simp only [List.getElem?_cons_zero, List.getElem?_cons_succ] at z0 z1 z2 z3 z4
        have y0 := hr0.free 0
        have y1 := hr0.free 1
        have y2 := hr0.free 2
        have y3 := hr0.free 3
        have y4 := hr0.free 4
        go_wp2
        have hrf := ((((hr0.put 0 (.int .i64 0)).put 1 (.int .i64 0)).put 2 (.int .i64 0)).put 3 (.int .i64 0)).put 4 (.slice none 0 0)
        simp only [List.set_cons_zero, List.set_cons_succ] at hrf
        have hbf := ((((Hbw.out.setCell (p := ⟨q, 0, none⟩) (Nat.le_refl q) (.int .i64 0)).setCell (p := ⟨q, 1, none⟩) (Nat.le_refl q) (.int .i64 0)).setCell (p := ⟨q, 2, none⟩) (Nat.le_refl q) (.int .i64 0)).setCell (p := ⟨q, 3, none⟩) (Nat.le_refl q) (.int .i64 0)).setCell (p := ⟨q, 4, none⟩) (Nat.le_refl q) (.slice none 0 0)
        unfold Row at hrf
        refine bodyPost_ret (results_ct rfl _ _ q tH _ (0, 0) _ rfl hrf Tryd.underlying31 rfl sizeHk) rfl ⟨by rw [HF.out]; rfl, by rw [← Hq.out]; exact hbf⟩
    · obtain rfl : i = 4 := by omega
      have hX : X = some (ns, s.drop t) := by rw [← Hns.out.2.2.1]; rfl
      obtain ⟨n0, n1, n2, n3, rfl⟩ : ∃ n0 n1 n2 n3, ns = [n0, n1, n2, n3] := by
        have h4 := Hns.out.1
        match ns, h4 with
        | [a, b, c, d], _ => exact ⟨a, b, c, d, rfl⟩
      rw [hX] at Hrr
      have Hrh := hide (show rhead s = hof n0 n1 n2 n3 (s.drop t) from Hrr.out)
      have HZ := hide (show Z = [(n0 : Int), n1, n2, n3] from Hns.out.2.1)
      have b0 := Hns.out.2.2.2 n0 (by simp)
      have b1 := Hns.out.2.2.2 n1 (by simp)
      have b2 := Hns.out.2.2.2 n2 (by simp)
      have b3 := Hns.out.2.2.2 n3 (by simp)
      obtain ⟨g, cap, rfl, hgB, hgl, hcs⟩ := OwN.form Hown.out (by rw [HZ.out]; simp)
      have hZl : Z.length = 4 := by rw [HZ.out]; rfl
      have g0 := hcs 0 n0 (by rw [HZ.out]; rfl)
      have g1 := hcs 1 n1 (by rw [HZ.out]; rfl)
      have g2 := hcs 2 n2 (by rw [HZ.out]; rfl)
      have g3 := hcs 3 n3 (by rw [HZ.out]; rfl)
      rw [hZl]
      have Hbw := hide (show Below q w wr from Hb0.out.trans (Hb.out.mono (by omega)))
      have Hrq := hide (show Row wr q tH zeroH from Hr0.out.below Hb.out (by omega))
      have HqB := hide (show q + 2 ≤ g from hgB)
      clear Hrr HX hX Hns Hown Hb hcs HZ hZl
      have Hl2 := Hl.out
      obtain ⟨n, hn⟩ : ∃ n, n = s.length := ⟨_, rfl⟩
      rw [← hn] at Hsz ht
      have Hn := hide hn
      clear hn
      by_cases hcl : s.drop t = closesB
      · have HW := hide (word_any s closesB t wr Hl.out (by rw [← Hn.out]; exact ht) (by decide) (n : Int) (by
          rw [hcl, if_pos (List.prefix_refl _)]
          have := congrArg List.length hcl
          rw [List.length_drop, ← Hn.out] at this
          have h4 : closesB.length = 4 := rfl
          omega))
        have hsz := Hsz.out
        have Hcl := hide hcl
        have hnn : ((n : Int) != (n : Int)) = false := bne_self_eq_false _
        clear hcl
        by_cases hok : ¬ ((n0 = 0 ∧ 0 < n1) ∨ (n2 = 0 ∧ 0 < n3))
        · have Hok := hide hok
          by_cases hz0 : n0 = 0
          · have z0 : ((n0 : Int) == 0) = true := by rw [beq_iff_eq]; omega
            have hf1 : ¬ 0 < n1 := by omega
            have d1 : decide ((0 : Int) < (n1 : Int)) = false := decide_eq_false (by omega)
            have e1 : decide (0 < n1) = false := decide_eq_false (by omega)
            by_cases hz2 : n2 = 0
            · have z2 : ((n2 : Int) == 0) = true := by rw [beq_iff_eq]; omega
              have hf3 : ¬ 0 < n3 := by omega
              have d3 : decide ((0 : Int) < (n3 : Int)) = false := decide_eq_false (by omega)
              have e3 : decide (0 < n3) = false := decide_eq_false (by omega)
              clear hz0 hz2 hok
              go_wp2_with fail
              refine HW.out.mono ?_
              rintro y w2 ⟨rfl, rfl⟩
              have HF := hide (show rhead s = some ⟨(n0 : Int), n1, (n2 : Int), n3, []⟩ by rw [Hrh.out, hof, if_pos ⟨Hcl.out, Hok.out⟩, lowP, lowP, if_neg hf1, if_neg hf3])
              have d1 : decide ((0 : Int) < (n1 : Int)) = false := decide_eq_false (by omega)
              have d3 : decide ((0 : Int) < (n3 : Int)) = false := decide_eq_false (by omega)
              have e1 : decide (0 < n1) = false := decide_eq_false (by omega)
              have e3 : decide (0 < n3) = false := decide_eq_false (by omega)
              have Hf13 := hide (And.intro hf1 hf3)
              go_wp2
              refine Rc.wp_region_ord (fun w' => w'.cell? ⟨g, 0, none⟩ = some (.int .i64 (n0 : Int)) ∧ w'.cell? ⟨g, 1, none⟩ = some (.int .i64 (n1 : Int)) ∧ w'.cell? ⟨g, 2, none⟩ = some (.int .i64 (n2 : Int)) ∧ w'.cell? ⟨g, 3, none⟩ = some (.int .i64 (n3 : Int))) [(0, true), (1, true), (2, true), (3, true), (4, true), (5, true), (6, true), (7, true), (8, true), (9, true), (10, true), (11, true), (12, true), (13, false), (14, false)] (by kernel_rfl) (by kernel_rfl) ?_
              simp only [Rg.pick, List.map_cons, List.map_nil, List.getD_cons_zero, List.getD_cons_succ]
              iterate 13 (refine Rc.ord_quiet (v := ?_) rfl (fun w' hS => ?_) ⟨g0, g1, g2, g3⟩ ?_; rotate_left; (obtain ⟨s0, s1, s2, s3⟩ := hS; go_simp; with_reducible rfl); simp only [Act.put, List.setIfInBounds_toArray, List.set_cons_succ, List.set_cons_zero])
              refine Rc.ord_loud rfl (fun K hK => ?_)
              go_simp
              have hbW : Below w2.heap.size w2 (w2.alloc (.cells zeroH.toArray tH)).drew := ((Below.refl _ w2).alloc (Nat.le_refl _) _).drew
              have k0 := cell_keep hbW g0
              have k1 := cell_keep hbW g1
              have k2 := cell_keep hbW g2
              have k3 := cell_keep hbW g3
              have hG : Row (w2.alloc (.cells zeroH.toArray tH)).drew w2.heap.size tH zeroH := (Row.fresh w2 tH zeroH.toArray).drew
              have hQ : Row (w2.alloc (.cells zeroH.toArray tH)).drew q tH zeroH := (Hrq.out.alloc _).drew
              have hbw := (Hbw.out.alloc (Nat.le_trans (by omega) (Nat.le_of_lt Hrq.out.lt)) (.cells zeroH.toArray tH)).drew
              have hGq : ¬ w2.heap.size = q := by have := Hrq.out.lt; omega
              have hqG : ¬ q = w2.heap.size := by have := Hrq.out.lt; omega
              have hqle : q ≤ w2.heap.size := Nat.le_of_lt Hrq.out.lt
              refine hK _ _ (fun _ => ⟨k0, k1, k2, k3⟩) ?_
              clear hK K
              obtain ⟨G, hGe⟩ : ∃ G, G = w2.heap.size := ⟨_, rfl⟩
              rw [← hGe] at hG hGq hqG hqle ⊢
              obtain ⟨w4, hw4⟩ : ∃ w4, w4 = (w2.alloc (.cells zeroH.toArray tH)).drew := ⟨_, rfl⟩
              rw [← hw4] at hG hQ k0 k1 k2 k3 hbw
              rw [show (w2.alloc (.cells #[.int .i64 0, .int .i64 0, .int .i64 0, .int .i64 0, .slice none 0 0] tH)).drew = w4 from hw4.symm]
              clear hbW hw4 hGe
              have z0 := hG.cell 0
              have z1 := hG.cell 1
              have z2 := hG.cell 2
              have z3 := hG.cell 3
              have z4 := hG.cell 4
              simp only [zeroH, List.getElem?_cons_zero, List.getElem?_cons_succ] at z0 z1 z2 z3 z4
              have y0 := hG.free 0
              have y1 := hG.free 1
              have y2 := hG.free 2
              have y3 := hG.free 3
              have y4 := hG.free 4
              refine Rc.ord_loud rfl (fun K hK => ?_)
              go_simp
              refine hK _ _ (fun hf => absurd (show Rc.sink _ 14 = true from by kernel_rfl) (by rw [hf]; decide)) ?_
              clear hK K z0 z1 z2 z3 z4 y0 y1 y2 y3 y4
              have hG5 := (((((hG.put 0 (.int .i64 (n0 : Int))).put 1 (.int .i64 (n1 : Int))).put 2 (.int .i64 (n2 : Int))).put 3 (.int .i64 (n3 : Int))).put 4 (.slice none 0 0))
              simp only [zeroH, List.set_cons_zero, List.set_cons_succ] at hG5
              have hQ5 := (((((hQ.off hqG (i := 0) (.int .i64 (n0 : Int))).off hqG (i := 1) (.int .i64 (n1 : Int))).off hqG (i := 2) (.int .i64 (n2 : Int))).off hqG (i := 3) (.int .i64 (n3 : Int))).off hqG (i := 4) (.slice none 0 0))
              have hb5 := (((((hbw.setCell (p := ⟨G, 0, none⟩) hqle (.int .i64 (n0 : Int))).setCell (p := ⟨G, 1, none⟩) hqle (.int .i64 (n1 : Int))).setCell (p := ⟨G, 2, none⟩) hqle (.int .i64 (n2 : Int))).setCell (p := ⟨G, 3, none⟩) hqle (.int .i64 (n3 : Int))).setCell (p := ⟨G, 4, none⟩) hqle (.slice none 0 0))
              obtain ⟨w5, hw5⟩ : ∃ w5, w5 = (((((w4.setCell ⟨G, 0, none⟩ (.int .i64 (n0 : Int))).setCell ⟨G, 1, none⟩ (.int .i64 (n1 : Int))).setCell ⟨G, 2, none⟩ (.int .i64 (n2 : Int))).setCell ⟨G, 3, none⟩ (.int .i64 (n3 : Int))).setCell ⟨G, 4, none⟩ (.slice none 0 0)) := ⟨_, rfl⟩
              rw [← hw5] at hG5 hQ5 hb5 ⊢
              clear hw5 hG hQ hbw k0 k1 k2 k3 g0 g1 g2 g3
              refine Rc.ord_nil ?_
              have z0 := hG5.cell 0
              have z1 := hG5.cell 1
              have z2 := hG5.cell 2
              have z3 := hG5.cell 3
              have z4 := hG5.cell 4
              have x0 := hQ5.cell 0
              have x1 := hQ5.cell 1
              have x2 := hQ5.cell 2
              have x3 := hQ5.cell 3
              have x4 := hQ5.cell 4
              simp only [zeroH, List.getElem?_cons_zero, List.getElem?_cons_succ] at z0 z1 z2 z3 z4 x0 x1 x2 x3 x4
              have y0 := hG5.free 0
              have y1 := hG5.free 1
              have y2 := hG5.free 2
              have y3 := hG5.free 3
              have y4 := hG5.free 4
              have v0 := hQ5.free 0
              have v1 := hQ5.free 1
              have v2 := hQ5.free 2
              have v3 := hQ5.free 3
              have v4 := hQ5.free 4
              have hs0 : IntKind.i64.wrap ((n0 : Int) - 1) = (n0 : Int) - 1 := IntWalk.i64_in _ (by omega)
              have hs2 : IntKind.i64.wrap ((n2 : Int) - 1) = (n2 : Int) - 1 := IntWalk.i64_in _ (by omega)
              go_wp2
              have hrf := (((((hQ5.put 0 (.int .i64 (n0 : Int))).put 1 (.int .i64 (n1 : Int))).put 2 (.int .i64 (n2 : Int))).put 3 (.int .i64 (n3 : Int))).put 4 (.slice none 0 0))
              simp only [zeroH, List.set_cons_zero, List.set_cons_succ] at hrf
              have hbf := (((((hb5.setCell (p := ⟨q, 0, none⟩) (Nat.le_refl q) (.int .i64 (n0 : Int))).setCell (p := ⟨q, 1, none⟩) (Nat.le_refl q) (.int .i64 (n1 : Int))).setCell (p := ⟨q, 2, none⟩) (Nat.le_refl q) (.int .i64 (n2 : Int))).setCell (p := ⟨q, 3, none⟩) (Nat.le_refl q) (.int .i64 (n3 : Int))).setCell (p := ⟨q, 4, none⟩) (Nat.le_refl q) (.slice none 0 0))
              unfold Row at hrf
              refine bodyPost_ret (results_ct rfl _ _ q tH _ (0, 0) _ rfl hrf Tryd.underlying31 rfl sizeHk) rfl ⟨by rw [HF.out]; rfl, by rw [← Hq.out]; exact hbf⟩
            · have z2 : ((n2 : Int) == 0) = false := by rw [beq_eq_false_iff_ne]; omega
              clear hz0 hz2 hok
              go_wp2_with fail
              refine HW.out.mono ?_
              rintro y w2 ⟨rfl, rfl⟩
              by_cases hf3 : 0 < n3
              · skip
                have HF := hide (show rhead s = some ⟨(n0 : Int), n1, ((n2 : Int) - 1), n3, []⟩ by rw [Hrh.out, hof, if_pos ⟨Hcl.out, Hok.out⟩, lowP, lowP, if_neg hf1, if_pos hf3])
                have d1 : decide ((0 : Int) < (n1 : Int)) = false := decide_eq_false (by omega)
                have d3 : decide ((0 : Int) < (n3 : Int)) = true := decide_eq_true (by omega)
                have e1 : decide (0 < n1) = false := decide_eq_false (by omega)
                have e3 : decide (0 < n3) = true := decide_eq_true (by omega)
                have Hf13 := hide (And.intro hf1 hf3)
                go_wp2
                refine Rc.wp_region_ord (fun w' => w'.cell? ⟨g, 0, none⟩ = some (.int .i64 (n0 : Int)) ∧ w'.cell? ⟨g, 1, none⟩ = some (.int .i64 (n1 : Int)) ∧ w'.cell? ⟨g, 2, none⟩ = some (.int .i64 (n2 : Int)) ∧ w'.cell? ⟨g, 3, none⟩ = some (.int .i64 (n3 : Int))) [(0, true), (1, true), (2, true), (3, true), (4, true), (5, true), (6, true), (7, true), (8, true), (9, true), (10, true), (11, true), (12, true), (13, false), (14, false)] (by kernel_rfl) (by kernel_rfl) ?_
                simp only [Rg.pick, List.map_cons, List.map_nil, List.getD_cons_zero, List.getD_cons_succ]
                iterate 13 (refine Rc.ord_quiet (v := ?_) rfl (fun w' hS => ?_) ⟨g0, g1, g2, g3⟩ ?_; rotate_left; (obtain ⟨s0, s1, s2, s3⟩ := hS; go_simp; with_reducible rfl); simp only [Act.put, List.setIfInBounds_toArray, List.set_cons_succ, List.set_cons_zero])
                refine Rc.ord_loud rfl (fun K hK => ?_)
                go_simp
                have hbW : Below w2.heap.size w2 (w2.alloc (.cells zeroH.toArray tH)).drew := ((Below.refl _ w2).alloc (Nat.le_refl _) _).drew
                have k0 := cell_keep hbW g0
                have k1 := cell_keep hbW g1
                have k2 := cell_keep hbW g2
                have k3 := cell_keep hbW g3
                have hG : Row (w2.alloc (.cells zeroH.toArray tH)).drew w2.heap.size tH zeroH := (Row.fresh w2 tH zeroH.toArray).drew
                have hQ : Row (w2.alloc (.cells zeroH.toArray tH)).drew q tH zeroH := (Hrq.out.alloc _).drew
                have hbw := (Hbw.out.alloc (Nat.le_trans (by omega) (Nat.le_of_lt Hrq.out.lt)) (.cells zeroH.toArray tH)).drew
                have hGq : ¬ w2.heap.size = q := by have := Hrq.out.lt; omega
                have hqG : ¬ q = w2.heap.size := by have := Hrq.out.lt; omega
                have hqle : q ≤ w2.heap.size := Nat.le_of_lt Hrq.out.lt
                refine hK _ _ (fun _ => ⟨k0, k1, k2, k3⟩) ?_
                clear hK K
                obtain ⟨G, hGe⟩ : ∃ G, G = w2.heap.size := ⟨_, rfl⟩
                rw [← hGe] at hG hGq hqG hqle ⊢
                obtain ⟨w4, hw4⟩ : ∃ w4, w4 = (w2.alloc (.cells zeroH.toArray tH)).drew := ⟨_, rfl⟩
                rw [← hw4] at hG hQ k0 k1 k2 k3 hbw
                rw [show (w2.alloc (.cells #[.int .i64 0, .int .i64 0, .int .i64 0, .int .i64 0, .slice none 0 0] tH)).drew = w4 from hw4.symm]
                clear hbW hw4 hGe
                have z0 := hG.cell 0
                have z1 := hG.cell 1
                have z2 := hG.cell 2
                have z3 := hG.cell 3
                have z4 := hG.cell 4
                simp only [zeroH, List.getElem?_cons_zero, List.getElem?_cons_succ] at z0 z1 z2 z3 z4
                have y0 := hG.free 0
                have y1 := hG.free 1
                have y2 := hG.free 2
                have y3 := hG.free 3
                have y4 := hG.free 4
                refine Rc.ord_loud rfl (fun K hK => ?_)
                go_simp
                refine hK _ _ (fun hf => absurd (show Rc.sink _ 14 = true from by kernel_rfl) (by rw [hf]; decide)) ?_
                clear hK K z0 z1 z2 z3 z4 y0 y1 y2 y3 y4
                have hG5 := (((((hG.put 0 (.int .i64 (n0 : Int))).put 1 (.int .i64 (n1 : Int))).put 2 (.int .i64 (n2 : Int))).put 3 (.int .i64 (n3 : Int))).put 4 (.slice none 0 0))
                simp only [zeroH, List.set_cons_zero, List.set_cons_succ] at hG5
                have hQ5 := (((((hQ.off hqG (i := 0) (.int .i64 (n0 : Int))).off hqG (i := 1) (.int .i64 (n1 : Int))).off hqG (i := 2) (.int .i64 (n2 : Int))).off hqG (i := 3) (.int .i64 (n3 : Int))).off hqG (i := 4) (.slice none 0 0))
                have hb5 := (((((hbw.setCell (p := ⟨G, 0, none⟩) hqle (.int .i64 (n0 : Int))).setCell (p := ⟨G, 1, none⟩) hqle (.int .i64 (n1 : Int))).setCell (p := ⟨G, 2, none⟩) hqle (.int .i64 (n2 : Int))).setCell (p := ⟨G, 3, none⟩) hqle (.int .i64 (n3 : Int))).setCell (p := ⟨G, 4, none⟩) hqle (.slice none 0 0))
                obtain ⟨w5, hw5⟩ : ∃ w5, w5 = (((((w4.setCell ⟨G, 0, none⟩ (.int .i64 (n0 : Int))).setCell ⟨G, 1, none⟩ (.int .i64 (n1 : Int))).setCell ⟨G, 2, none⟩ (.int .i64 (n2 : Int))).setCell ⟨G, 3, none⟩ (.int .i64 (n3 : Int))).setCell ⟨G, 4, none⟩ (.slice none 0 0)) := ⟨_, rfl⟩
                rw [← hw5] at hG5 hQ5 hb5 ⊢
                clear hw5 hG hQ hbw k0 k1 k2 k3 g0 g1 g2 g3
                refine Rc.ord_nil ?_
                have z0 := hG5.cell 0
                have z1 := hG5.cell 1
                have z2 := hG5.cell 2
                have z3 := hG5.cell 3
                have z4 := hG5.cell 4
                have x0 := hQ5.cell 0
                have x1 := hQ5.cell 1
                have x2 := hQ5.cell 2
                have x3 := hQ5.cell 3
                have x4 := hQ5.cell 4
                simp only [zeroH, List.getElem?_cons_zero, List.getElem?_cons_succ] at z0 z1 z2 z3 z4 x0 x1 x2 x3 x4
                have y0 := hG5.free 0
                have y1 := hG5.free 1
                have y2 := hG5.free 2
                have y3 := hG5.free 3
                have y4 := hG5.free 4
                have v0 := hQ5.free 0
                have v1 := hQ5.free 1
                have v2 := hQ5.free 2
                have v3 := hQ5.free 3
                have v4 := hQ5.free 4
                have hs0 : IntKind.i64.wrap ((n0 : Int) - 1) = (n0 : Int) - 1 := IntWalk.i64_in _ (by omega)
                have hs2 : IntKind.i64.wrap ((n2 : Int) - 1) = (n2 : Int) - 1 := IntWalk.i64_in _ (by omega)
                go_wp2
                have hrf := ((((((hQ5.off hqG (i := 2) (.int .i64 ((n2 : Int) - 1))).put 0 (.int .i64 (n0 : Int))).put 1 (.int .i64 (n1 : Int))).put 2 (.int .i64 ((n2 : Int) - 1))).put 3 (.int .i64 (n3 : Int))).put 4 (.slice none 0 0))
                simp only [zeroH, List.set_cons_zero, List.set_cons_succ] at hrf
                have hbf := ((((((hb5.setCell (p := ⟨G, 2, none⟩) hqle (.int .i64 ((n2 : Int) - 1))).setCell (p := ⟨q, 0, none⟩) (Nat.le_refl q) (.int .i64 (n0 : Int))).setCell (p := ⟨q, 1, none⟩) (Nat.le_refl q) (.int .i64 (n1 : Int))).setCell (p := ⟨q, 2, none⟩) (Nat.le_refl q) (.int .i64 ((n2 : Int) - 1))).setCell (p := ⟨q, 3, none⟩) (Nat.le_refl q) (.int .i64 (n3 : Int))).setCell (p := ⟨q, 4, none⟩) (Nat.le_refl q) (.slice none 0 0))
                unfold Row at hrf
                refine bodyPost_ret (results_ct rfl _ _ q tH _ (0, 0) _ rfl hrf Tryd.underlying31 rfl sizeHk) rfl ⟨by rw [HF.out]; rfl, by rw [← Hq.out]; exact hbf⟩
              · skip
                have HF := hide (show rhead s = some ⟨(n0 : Int), n1, (n2 : Int), n3, []⟩ by rw [Hrh.out, hof, if_pos ⟨Hcl.out, Hok.out⟩, lowP, lowP, if_neg hf1, if_neg hf3])
                have d1 : decide ((0 : Int) < (n1 : Int)) = false := decide_eq_false (by omega)
                have d3 : decide ((0 : Int) < (n3 : Int)) = false := decide_eq_false (by omega)
                have e1 : decide (0 < n1) = false := decide_eq_false (by omega)
                have e3 : decide (0 < n3) = false := decide_eq_false (by omega)
                have Hf13 := hide (And.intro hf1 hf3)
                go_wp2
                refine Rc.wp_region_ord (fun w' => w'.cell? ⟨g, 0, none⟩ = some (.int .i64 (n0 : Int)) ∧ w'.cell? ⟨g, 1, none⟩ = some (.int .i64 (n1 : Int)) ∧ w'.cell? ⟨g, 2, none⟩ = some (.int .i64 (n2 : Int)) ∧ w'.cell? ⟨g, 3, none⟩ = some (.int .i64 (n3 : Int))) [(0, true), (1, true), (2, true), (3, true), (4, true), (5, true), (6, true), (7, true), (8, true), (9, true), (10, true), (11, true), (12, true), (13, false), (14, false)] (by kernel_rfl) (by kernel_rfl) ?_
                simp only [Rg.pick, List.map_cons, List.map_nil, List.getD_cons_zero, List.getD_cons_succ]
                iterate 13 (refine Rc.ord_quiet (v := ?_) rfl (fun w' hS => ?_) ⟨g0, g1, g2, g3⟩ ?_; rotate_left; (obtain ⟨s0, s1, s2, s3⟩ := hS; go_simp; with_reducible rfl); simp only [Act.put, List.setIfInBounds_toArray, List.set_cons_succ, List.set_cons_zero])
                refine Rc.ord_loud rfl (fun K hK => ?_)
                go_simp
                have hbW : Below w2.heap.size w2 (w2.alloc (.cells zeroH.toArray tH)).drew := ((Below.refl _ w2).alloc (Nat.le_refl _) _).drew
                have k0 := cell_keep hbW g0
                have k1 := cell_keep hbW g1
                have k2 := cell_keep hbW g2
                have k3 := cell_keep hbW g3
                have hG : Row (w2.alloc (.cells zeroH.toArray tH)).drew w2.heap.size tH zeroH := (Row.fresh w2 tH zeroH.toArray).drew
                have hQ : Row (w2.alloc (.cells zeroH.toArray tH)).drew q tH zeroH := (Hrq.out.alloc _).drew
                have hbw := (Hbw.out.alloc (Nat.le_trans (by omega) (Nat.le_of_lt Hrq.out.lt)) (.cells zeroH.toArray tH)).drew
                have hGq : ¬ w2.heap.size = q := by have := Hrq.out.lt; omega
                have hqG : ¬ q = w2.heap.size := by have := Hrq.out.lt; omega
                have hqle : q ≤ w2.heap.size := Nat.le_of_lt Hrq.out.lt
                refine hK _ _ (fun _ => ⟨k0, k1, k2, k3⟩) ?_
                clear hK K
                obtain ⟨G, hGe⟩ : ∃ G, G = w2.heap.size := ⟨_, rfl⟩
                rw [← hGe] at hG hGq hqG hqle ⊢
                obtain ⟨w4, hw4⟩ : ∃ w4, w4 = (w2.alloc (.cells zeroH.toArray tH)).drew := ⟨_, rfl⟩
                rw [← hw4] at hG hQ k0 k1 k2 k3 hbw
                rw [show (w2.alloc (.cells #[.int .i64 0, .int .i64 0, .int .i64 0, .int .i64 0, .slice none 0 0] tH)).drew = w4 from hw4.symm]
                clear hbW hw4 hGe
                have z0 := hG.cell 0
                have z1 := hG.cell 1
                have z2 := hG.cell 2
                have z3 := hG.cell 3
                have z4 := hG.cell 4
                simp only [zeroH, List.getElem?_cons_zero, List.getElem?_cons_succ] at z0 z1 z2 z3 z4
                have y0 := hG.free 0
                have y1 := hG.free 1
                have y2 := hG.free 2
                have y3 := hG.free 3
                have y4 := hG.free 4
                refine Rc.ord_loud rfl (fun K hK => ?_)
                go_simp
                refine hK _ _ (fun hf => absurd (show Rc.sink _ 14 = true from by kernel_rfl) (by rw [hf]; decide)) ?_
                clear hK K z0 z1 z2 z3 z4 y0 y1 y2 y3 y4
                have hG5 := (((((hG.put 0 (.int .i64 (n0 : Int))).put 1 (.int .i64 (n1 : Int))).put 2 (.int .i64 (n2 : Int))).put 3 (.int .i64 (n3 : Int))).put 4 (.slice none 0 0))
                simp only [zeroH, List.set_cons_zero, List.set_cons_succ] at hG5
                have hQ5 := (((((hQ.off hqG (i := 0) (.int .i64 (n0 : Int))).off hqG (i := 1) (.int .i64 (n1 : Int))).off hqG (i := 2) (.int .i64 (n2 : Int))).off hqG (i := 3) (.int .i64 (n3 : Int))).off hqG (i := 4) (.slice none 0 0))
                have hb5 := (((((hbw.setCell (p := ⟨G, 0, none⟩) hqle (.int .i64 (n0 : Int))).setCell (p := ⟨G, 1, none⟩) hqle (.int .i64 (n1 : Int))).setCell (p := ⟨G, 2, none⟩) hqle (.int .i64 (n2 : Int))).setCell (p := ⟨G, 3, none⟩) hqle (.int .i64 (n3 : Int))).setCell (p := ⟨G, 4, none⟩) hqle (.slice none 0 0))
                obtain ⟨w5, hw5⟩ : ∃ w5, w5 = (((((w4.setCell ⟨G, 0, none⟩ (.int .i64 (n0 : Int))).setCell ⟨G, 1, none⟩ (.int .i64 (n1 : Int))).setCell ⟨G, 2, none⟩ (.int .i64 (n2 : Int))).setCell ⟨G, 3, none⟩ (.int .i64 (n3 : Int))).setCell ⟨G, 4, none⟩ (.slice none 0 0)) := ⟨_, rfl⟩
                rw [← hw5] at hG5 hQ5 hb5 ⊢
                clear hw5 hG hQ hbw k0 k1 k2 k3 g0 g1 g2 g3
                refine Rc.ord_nil ?_
                have z0 := hG5.cell 0
                have z1 := hG5.cell 1
                have z2 := hG5.cell 2
                have z3 := hG5.cell 3
                have z4 := hG5.cell 4
                have x0 := hQ5.cell 0
                have x1 := hQ5.cell 1
                have x2 := hQ5.cell 2
                have x3 := hQ5.cell 3
                have x4 := hQ5.cell 4
                simp only [zeroH, List.getElem?_cons_zero, List.getElem?_cons_succ] at z0 z1 z2 z3 z4 x0 x1 x2 x3 x4
                have y0 := hG5.free 0
                have y1 := hG5.free 1
                have y2 := hG5.free 2
                have y3 := hG5.free 3
                have y4 := hG5.free 4
                have v0 := hQ5.free 0
                have v1 := hQ5.free 1
                have v2 := hQ5.free 2
                have v3 := hQ5.free 3
                have v4 := hQ5.free 4
                have hs0 : IntKind.i64.wrap ((n0 : Int) - 1) = (n0 : Int) - 1 := IntWalk.i64_in _ (by omega)
                have hs2 : IntKind.i64.wrap ((n2 : Int) - 1) = (n2 : Int) - 1 := IntWalk.i64_in _ (by omega)
                go_wp2
                have hrf := (((((hQ5.put 0 (.int .i64 (n0 : Int))).put 1 (.int .i64 (n1 : Int))).put 2 (.int .i64 (n2 : Int))).put 3 (.int .i64 (n3 : Int))).put 4 (.slice none 0 0))
                simp only [zeroH, List.set_cons_zero, List.set_cons_succ] at hrf
                have hbf := (((((hb5.setCell (p := ⟨q, 0, none⟩) (Nat.le_refl q) (.int .i64 (n0 : Int))).setCell (p := ⟨q, 1, none⟩) (Nat.le_refl q) (.int .i64 (n1 : Int))).setCell (p := ⟨q, 2, none⟩) (Nat.le_refl q) (.int .i64 (n2 : Int))).setCell (p := ⟨q, 3, none⟩) (Nat.le_refl q) (.int .i64 (n3 : Int))).setCell (p := ⟨q, 4, none⟩) (Nat.le_refl q) (.slice none 0 0))
                unfold Row at hrf
                refine bodyPost_ret (results_ct rfl _ _ q tH _ (0, 0) _ rfl hrf Tryd.underlying31 rfl sizeHk) rfl ⟨by rw [HF.out]; rfl, by rw [← Hq.out]; exact hbf⟩
          · have z0 : ((n0 : Int) == 0) = false := by rw [beq_eq_false_iff_ne]; omega
            by_cases hz2 : n2 = 0
            · have z2 : ((n2 : Int) == 0) = true := by rw [beq_iff_eq]; omega
              have hf3 : ¬ 0 < n3 := by omega
              have d3 : decide ((0 : Int) < (n3 : Int)) = false := decide_eq_false (by omega)
              have e3 : decide (0 < n3) = false := decide_eq_false (by omega)
              clear hz0 hz2 hok
              go_wp2_with fail
              refine HW.out.mono ?_
              rintro y w2 ⟨rfl, rfl⟩
              by_cases hf1 : 0 < n1
              · skip
                have HF := hide (show rhead s = some ⟨((n0 : Int) - 1), n1, (n2 : Int), n3, []⟩ by rw [Hrh.out, hof, if_pos ⟨Hcl.out, Hok.out⟩, lowP, lowP, if_pos hf1, if_neg hf3])
                have d1 : decide ((0 : Int) < (n1 : Int)) = true := decide_eq_true (by omega)
                have d3 : decide ((0 : Int) < (n3 : Int)) = false := decide_eq_false (by omega)
                have e1 : decide (0 < n1) = true := decide_eq_true (by omega)
                have e3 : decide (0 < n3) = false := decide_eq_false (by omega)
                have Hf13 := hide (And.intro hf1 hf3)
                go_wp2
                refine Rc.wp_region_ord (fun w' => w'.cell? ⟨g, 0, none⟩ = some (.int .i64 (n0 : Int)) ∧ w'.cell? ⟨g, 1, none⟩ = some (.int .i64 (n1 : Int)) ∧ w'.cell? ⟨g, 2, none⟩ = some (.int .i64 (n2 : Int)) ∧ w'.cell? ⟨g, 3, none⟩ = some (.int .i64 (n3 : Int))) [(0, true), (1, true), (2, true), (3, true), (4, true), (5, true), (6, true), (7, true), (8, true), (9, true), (10, true), (11, true), (12, true), (13, false), (14, false)] (by kernel_rfl) (by kernel_rfl) ?_
                simp only [Rg.pick, List.map_cons, List.map_nil, List.getD_cons_zero, List.getD_cons_succ]
                iterate 13 (refine Rc.ord_quiet (v := ?_) rfl (fun w' hS => ?_) ⟨g0, g1, g2, g3⟩ ?_; rotate_left; (obtain ⟨s0, s1, s2, s3⟩ := hS; go_simp; with_reducible rfl); simp only [Act.put, List.setIfInBounds_toArray, List.set_cons_succ, List.set_cons_zero])
                refine Rc.ord_loud rfl (fun K hK => ?_)
                go_simp
                have hbW : Below w2.heap.size w2 (w2.alloc (.cells zeroH.toArray tH)).drew := ((Below.refl _ w2).alloc (Nat.le_refl _) _).drew
                have k0 := cell_keep hbW g0
                have k1 := cell_keep hbW g1
                have k2 := cell_keep hbW g2
                have k3 := cell_keep hbW g3
                have hG : Row (w2.alloc (.cells zeroH.toArray tH)).drew w2.heap.size tH zeroH := (Row.fresh w2 tH zeroH.toArray).drew
                have hQ : Row (w2.alloc (.cells zeroH.toArray tH)).drew q tH zeroH := (Hrq.out.alloc _).drew
                have hbw := (Hbw.out.alloc (Nat.le_trans (by omega) (Nat.le_of_lt Hrq.out.lt)) (.cells zeroH.toArray tH)).drew
                have hGq : ¬ w2.heap.size = q := by have := Hrq.out.lt; omega
                have hqG : ¬ q = w2.heap.size := by have := Hrq.out.lt; omega
                have hqle : q ≤ w2.heap.size := Nat.le_of_lt Hrq.out.lt
                refine hK _ _ (fun _ => ⟨k0, k1, k2, k3⟩) ?_
                clear hK K
                obtain ⟨G, hGe⟩ : ∃ G, G = w2.heap.size := ⟨_, rfl⟩
                rw [← hGe] at hG hGq hqG hqle ⊢
                obtain ⟨w4, hw4⟩ : ∃ w4, w4 = (w2.alloc (.cells zeroH.toArray tH)).drew := ⟨_, rfl⟩
                rw [← hw4] at hG hQ k0 k1 k2 k3 hbw
                rw [show (w2.alloc (.cells #[.int .i64 0, .int .i64 0, .int .i64 0, .int .i64 0, .slice none 0 0] tH)).drew = w4 from hw4.symm]
                clear hbW hw4 hGe
                have z0 := hG.cell 0
                have z1 := hG.cell 1
                have z2 := hG.cell 2
                have z3 := hG.cell 3
                have z4 := hG.cell 4
                simp only [zeroH, List.getElem?_cons_zero, List.getElem?_cons_succ] at z0 z1 z2 z3 z4
                have y0 := hG.free 0
                have y1 := hG.free 1
                have y2 := hG.free 2
                have y3 := hG.free 3
                have y4 := hG.free 4
                refine Rc.ord_loud rfl (fun K hK => ?_)
                go_simp
                refine hK _ _ (fun hf => absurd (show Rc.sink _ 14 = true from by kernel_rfl) (by rw [hf]; decide)) ?_
                clear hK K z0 z1 z2 z3 z4 y0 y1 y2 y3 y4
                have hG5 := (((((hG.put 0 (.int .i64 (n0 : Int))).put 1 (.int .i64 (n1 : Int))).put 2 (.int .i64 (n2 : Int))).put 3 (.int .i64 (n3 : Int))).put 4 (.slice none 0 0))
                simp only [zeroH, List.set_cons_zero, List.set_cons_succ] at hG5
                have hQ5 := (((((hQ.off hqG (i := 0) (.int .i64 (n0 : Int))).off hqG (i := 1) (.int .i64 (n1 : Int))).off hqG (i := 2) (.int .i64 (n2 : Int))).off hqG (i := 3) (.int .i64 (n3 : Int))).off hqG (i := 4) (.slice none 0 0))
                have hb5 := (((((hbw.setCell (p := ⟨G, 0, none⟩) hqle (.int .i64 (n0 : Int))).setCell (p := ⟨G, 1, none⟩) hqle (.int .i64 (n1 : Int))).setCell (p := ⟨G, 2, none⟩) hqle (.int .i64 (n2 : Int))).setCell (p := ⟨G, 3, none⟩) hqle (.int .i64 (n3 : Int))).setCell (p := ⟨G, 4, none⟩) hqle (.slice none 0 0))
                obtain ⟨w5, hw5⟩ : ∃ w5, w5 = (((((w4.setCell ⟨G, 0, none⟩ (.int .i64 (n0 : Int))).setCell ⟨G, 1, none⟩ (.int .i64 (n1 : Int))).setCell ⟨G, 2, none⟩ (.int .i64 (n2 : Int))).setCell ⟨G, 3, none⟩ (.int .i64 (n3 : Int))).setCell ⟨G, 4, none⟩ (.slice none 0 0)) := ⟨_, rfl⟩
                rw [← hw5] at hG5 hQ5 hb5 ⊢
                clear hw5 hG hQ hbw k0 k1 k2 k3 g0 g1 g2 g3
                refine Rc.ord_nil ?_
                have z0 := hG5.cell 0
                have z1 := hG5.cell 1
                have z2 := hG5.cell 2
                have z3 := hG5.cell 3
                have z4 := hG5.cell 4
                have x0 := hQ5.cell 0
                have x1 := hQ5.cell 1
                have x2 := hQ5.cell 2
                have x3 := hQ5.cell 3
                have x4 := hQ5.cell 4
                simp only [zeroH, List.getElem?_cons_zero, List.getElem?_cons_succ] at z0 z1 z2 z3 z4 x0 x1 x2 x3 x4
                have y0 := hG5.free 0
                have y1 := hG5.free 1
                have y2 := hG5.free 2
                have y3 := hG5.free 3
                have y4 := hG5.free 4
                have v0 := hQ5.free 0
                have v1 := hQ5.free 1
                have v2 := hQ5.free 2
                have v3 := hQ5.free 3
                have v4 := hQ5.free 4
                have hs0 : IntKind.i64.wrap ((n0 : Int) - 1) = (n0 : Int) - 1 := IntWalk.i64_in _ (by omega)
                have hs2 : IntKind.i64.wrap ((n2 : Int) - 1) = (n2 : Int) - 1 := IntWalk.i64_in _ (by omega)
                go_wp2
                have hrf := ((((((hQ5.off hqG (i := 0) (.int .i64 ((n0 : Int) - 1))).put 0 (.int .i64 ((n0 : Int) - 1))).put 1 (.int .i64 (n1 : Int))).put 2 (.int .i64 (n2 : Int))).put 3 (.int .i64 (n3 : Int))).put 4 (.slice none 0 0))
                simp only [zeroH, List.set_cons_zero, List.set_cons_succ] at hrf
                have hbf := ((((((hb5.setCell (p := ⟨G, 0, none⟩) hqle (.int .i64 ((n0 : Int) - 1))).setCell (p := ⟨q, 0, none⟩) (Nat.le_refl q) (.int .i64 ((n0 : Int) - 1))).setCell (p := ⟨q, 1, none⟩) (Nat.le_refl q) (.int .i64 (n1 : Int))).setCell (p := ⟨q, 2, none⟩) (Nat.le_refl q) (.int .i64 (n2 : Int))).setCell (p := ⟨q, 3, none⟩) (Nat.le_refl q) (.int .i64 (n3 : Int))).setCell (p := ⟨q, 4, none⟩) (Nat.le_refl q) (.slice none 0 0))
                unfold Row at hrf
                refine bodyPost_ret (results_ct rfl _ _ q tH _ (0, 0) _ rfl hrf Tryd.underlying31 rfl sizeHk) rfl ⟨by rw [HF.out]; rfl, by rw [← Hq.out]; exact hbf⟩
              · skip
                have HF := hide (show rhead s = some ⟨(n0 : Int), n1, (n2 : Int), n3, []⟩ by rw [Hrh.out, hof, if_pos ⟨Hcl.out, Hok.out⟩, lowP, lowP, if_neg hf1, if_neg hf3])
                have d1 : decide ((0 : Int) < (n1 : Int)) = false := decide_eq_false (by omega)
                have d3 : decide ((0 : Int) < (n3 : Int)) = false := decide_eq_false (by omega)
                have e1 : decide (0 < n1) = false := decide_eq_false (by omega)
                have e3 : decide (0 < n3) = false := decide_eq_false (by omega)
                have Hf13 := hide (And.intro hf1 hf3)
                go_wp2
                refine Rc.wp_region_ord (fun w' => w'.cell? ⟨g, 0, none⟩ = some (.int .i64 (n0 : Int)) ∧ w'.cell? ⟨g, 1, none⟩ = some (.int .i64 (n1 : Int)) ∧ w'.cell? ⟨g, 2, none⟩ = some (.int .i64 (n2 : Int)) ∧ w'.cell? ⟨g, 3, none⟩ = some (.int .i64 (n3 : Int))) [(0, true), (1, true), (2, true), (3, true), (4, true), (5, true), (6, true), (7, true), (8, true), (9, true), (10, true), (11, true), (12, true), (13, false), (14, false)] (by kernel_rfl) (by kernel_rfl) ?_
                simp only [Rg.pick, List.map_cons, List.map_nil, List.getD_cons_zero, List.getD_cons_succ]
                iterate 13 (refine Rc.ord_quiet (v := ?_) rfl (fun w' hS => ?_) ⟨g0, g1, g2, g3⟩ ?_; rotate_left; (obtain ⟨s0, s1, s2, s3⟩ := hS; go_simp; with_reducible rfl); simp only [Act.put, List.setIfInBounds_toArray, List.set_cons_succ, List.set_cons_zero])
                refine Rc.ord_loud rfl (fun K hK => ?_)
                go_simp
                have hbW : Below w2.heap.size w2 (w2.alloc (.cells zeroH.toArray tH)).drew := ((Below.refl _ w2).alloc (Nat.le_refl _) _).drew
                have k0 := cell_keep hbW g0
                have k1 := cell_keep hbW g1
                have k2 := cell_keep hbW g2
                have k3 := cell_keep hbW g3
                have hG : Row (w2.alloc (.cells zeroH.toArray tH)).drew w2.heap.size tH zeroH := (Row.fresh w2 tH zeroH.toArray).drew
                have hQ : Row (w2.alloc (.cells zeroH.toArray tH)).drew q tH zeroH := (Hrq.out.alloc _).drew
                have hbw := (Hbw.out.alloc (Nat.le_trans (by omega) (Nat.le_of_lt Hrq.out.lt)) (.cells zeroH.toArray tH)).drew
                have hGq : ¬ w2.heap.size = q := by have := Hrq.out.lt; omega
                have hqG : ¬ q = w2.heap.size := by have := Hrq.out.lt; omega
                have hqle : q ≤ w2.heap.size := Nat.le_of_lt Hrq.out.lt
                refine hK _ _ (fun _ => ⟨k0, k1, k2, k3⟩) ?_
                clear hK K
                obtain ⟨G, hGe⟩ : ∃ G, G = w2.heap.size := ⟨_, rfl⟩
                rw [← hGe] at hG hGq hqG hqle ⊢
                obtain ⟨w4, hw4⟩ : ∃ w4, w4 = (w2.alloc (.cells zeroH.toArray tH)).drew := ⟨_, rfl⟩
                rw [← hw4] at hG hQ k0 k1 k2 k3 hbw
                rw [show (w2.alloc (.cells #[.int .i64 0, .int .i64 0, .int .i64 0, .int .i64 0, .slice none 0 0] tH)).drew = w4 from hw4.symm]
                clear hbW hw4 hGe
                have z0 := hG.cell 0
                have z1 := hG.cell 1
                have z2 := hG.cell 2
                have z3 := hG.cell 3
                have z4 := hG.cell 4
                simp only [zeroH, List.getElem?_cons_zero, List.getElem?_cons_succ] at z0 z1 z2 z3 z4
                have y0 := hG.free 0
                have y1 := hG.free 1
                have y2 := hG.free 2
                have y3 := hG.free 3
                have y4 := hG.free 4
                refine Rc.ord_loud rfl (fun K hK => ?_)
                go_simp
                refine hK _ _ (fun hf => absurd (show Rc.sink _ 14 = true from by kernel_rfl) (by rw [hf]; decide)) ?_
                clear hK K z0 z1 z2 z3 z4 y0 y1 y2 y3 y4
                have hG5 := (((((hG.put 0 (.int .i64 (n0 : Int))).put 1 (.int .i64 (n1 : Int))).put 2 (.int .i64 (n2 : Int))).put 3 (.int .i64 (n3 : Int))).put 4 (.slice none 0 0))
                simp only [zeroH, List.set_cons_zero, List.set_cons_succ] at hG5
                have hQ5 := (((((hQ.off hqG (i := 0) (.int .i64 (n0 : Int))).off hqG (i := 1) (.int .i64 (n1 : Int))).off hqG (i := 2) (.int .i64 (n2 : Int))).off hqG (i := 3) (.int .i64 (n3 : Int))).off hqG (i := 4) (.slice none 0 0))
                have hb5 := (((((hbw.setCell (p := ⟨G, 0, none⟩) hqle (.int .i64 (n0 : Int))).setCell (p := ⟨G, 1, none⟩) hqle (.int .i64 (n1 : Int))).setCell (p := ⟨G, 2, none⟩) hqle (.int .i64 (n2 : Int))).setCell (p := ⟨G, 3, none⟩) hqle (.int .i64 (n3 : Int))).setCell (p := ⟨G, 4, none⟩) hqle (.slice none 0 0))
                obtain ⟨w5, hw5⟩ : ∃ w5, w5 = (((((w4.setCell ⟨G, 0, none⟩ (.int .i64 (n0 : Int))).setCell ⟨G, 1, none⟩ (.int .i64 (n1 : Int))).setCell ⟨G, 2, none⟩ (.int .i64 (n2 : Int))).setCell ⟨G, 3, none⟩ (.int .i64 (n3 : Int))).setCell ⟨G, 4, none⟩ (.slice none 0 0)) := ⟨_, rfl⟩
                rw [← hw5] at hG5 hQ5 hb5 ⊢
                clear hw5 hG hQ hbw k0 k1 k2 k3 g0 g1 g2 g3
                refine Rc.ord_nil ?_
                have z0 := hG5.cell 0
                have z1 := hG5.cell 1
                have z2 := hG5.cell 2
                have z3 := hG5.cell 3
                have z4 := hG5.cell 4
                have x0 := hQ5.cell 0
                have x1 := hQ5.cell 1
                have x2 := hQ5.cell 2
                have x3 := hQ5.cell 3
                have x4 := hQ5.cell 4
                simp only [zeroH, List.getElem?_cons_zero, List.getElem?_cons_succ] at z0 z1 z2 z3 z4 x0 x1 x2 x3 x4
                have y0 := hG5.free 0
                have y1 := hG5.free 1
                have y2 := hG5.free 2
                have y3 := hG5.free 3
                have y4 := hG5.free 4
                have v0 := hQ5.free 0
                have v1 := hQ5.free 1
                have v2 := hQ5.free 2
                have v3 := hQ5.free 3
                have v4 := hQ5.free 4
                have hs0 : IntKind.i64.wrap ((n0 : Int) - 1) = (n0 : Int) - 1 := IntWalk.i64_in _ (by omega)
                have hs2 : IntKind.i64.wrap ((n2 : Int) - 1) = (n2 : Int) - 1 := IntWalk.i64_in _ (by omega)
                go_wp2
                have hrf := (((((hQ5.put 0 (.int .i64 (n0 : Int))).put 1 (.int .i64 (n1 : Int))).put 2 (.int .i64 (n2 : Int))).put 3 (.int .i64 (n3 : Int))).put 4 (.slice none 0 0))
                simp only [zeroH, List.set_cons_zero, List.set_cons_succ] at hrf
                have hbf := (((((hb5.setCell (p := ⟨q, 0, none⟩) (Nat.le_refl q) (.int .i64 (n0 : Int))).setCell (p := ⟨q, 1, none⟩) (Nat.le_refl q) (.int .i64 (n1 : Int))).setCell (p := ⟨q, 2, none⟩) (Nat.le_refl q) (.int .i64 (n2 : Int))).setCell (p := ⟨q, 3, none⟩) (Nat.le_refl q) (.int .i64 (n3 : Int))).setCell (p := ⟨q, 4, none⟩) (Nat.le_refl q) (.slice none 0 0))
                unfold Row at hrf
                refine bodyPost_ret (results_ct rfl _ _ q tH _ (0, 0) _ rfl hrf Tryd.underlying31 rfl sizeHk) rfl ⟨by rw [HF.out]; rfl, by rw [← Hq.out]; exact hbf⟩
            · have z2 : ((n2 : Int) == 0) = false := by rw [beq_eq_false_iff_ne]; omega
              clear hz0 hz2 hok
              go_wp2_with fail
              refine HW.out.mono ?_
              rintro y w2 ⟨rfl, rfl⟩
              by_cases hf1 : 0 < n1
              · skip
                by_cases hf3 : 0 < n3
                · skip
                  have HF := hide (show rhead s = some ⟨((n0 : Int) - 1), n1, ((n2 : Int) - 1), n3, []⟩ by rw [Hrh.out, hof, if_pos ⟨Hcl.out, Hok.out⟩, lowP, lowP, if_pos hf1, if_pos hf3])
                  have d1 : decide ((0 : Int) < (n1 : Int)) = true := decide_eq_true (by omega)
                  have d3 : decide ((0 : Int) < (n3 : Int)) = true := decide_eq_true (by omega)
                  have e1 : decide (0 < n1) = true := decide_eq_true (by omega)
                  have e3 : decide (0 < n3) = true := decide_eq_true (by omega)
                  have Hf13 := hide (And.intro hf1 hf3)
                  go_wp2
                  refine Rc.wp_region_ord (fun w' => w'.cell? ⟨g, 0, none⟩ = some (.int .i64 (n0 : Int)) ∧ w'.cell? ⟨g, 1, none⟩ = some (.int .i64 (n1 : Int)) ∧ w'.cell? ⟨g, 2, none⟩ = some (.int .i64 (n2 : Int)) ∧ w'.cell? ⟨g, 3, none⟩ = some (.int .i64 (n3 : Int))) [(0, true), (1, true), (2, true), (3, true), (4, true), (5, true), (6, true), (7, true), (8, true), (9, true), (10, true), (11, true), (12, true), (13, false), (14, false)] (by kernel_rfl) (by kernel_rfl) ?_
                  simp only [Rg.pick, List.map_cons, List.map_nil, List.getD_cons_zero, List.getD_cons_succ]
                  iterate 13 (refine Rc.ord_quiet (v := ?_) rfl (fun w' hS => ?_) ⟨g0, g1, g2, g3⟩ ?_; rotate_left; (obtain ⟨s0, s1, s2, s3⟩ := hS; go_simp; with_reducible rfl); simp only [Act.put, List.setIfInBounds_toArray, List.set_cons_succ, List.set_cons_zero])
                  refine Rc.ord_loud rfl (fun K hK => ?_)
                  go_simp
                  have hbW : Below w2.heap.size w2 (w2.alloc (.cells zeroH.toArray tH)).drew := ((Below.refl _ w2).alloc (Nat.le_refl _) _).drew
                  have k0 := cell_keep hbW g0
                  have k1 := cell_keep hbW g1
                  have k2 := cell_keep hbW g2
                  have k3 := cell_keep hbW g3
                  have hG : Row (w2.alloc (.cells zeroH.toArray tH)).drew w2.heap.size tH zeroH := (Row.fresh w2 tH zeroH.toArray).drew
                  have hQ : Row (w2.alloc (.cells zeroH.toArray tH)).drew q tH zeroH := (Hrq.out.alloc _).drew
                  have hbw := (Hbw.out.alloc (Nat.le_trans (by omega) (Nat.le_of_lt Hrq.out.lt)) (.cells zeroH.toArray tH)).drew
                  have hGq : ¬ w2.heap.size = q := by have := Hrq.out.lt; omega
                  have hqG : ¬ q = w2.heap.size := by have := Hrq.out.lt; omega
                  have hqle : q ≤ w2.heap.size := Nat.le_of_lt Hrq.out.lt
                  refine hK _ _ (fun _ => ⟨k0, k1, k2, k3⟩) ?_
                  clear hK K
                  obtain ⟨G, hGe⟩ : ∃ G, G = w2.heap.size := ⟨_, rfl⟩
                  rw [← hGe] at hG hGq hqG hqle ⊢
                  obtain ⟨w4, hw4⟩ : ∃ w4, w4 = (w2.alloc (.cells zeroH.toArray tH)).drew := ⟨_, rfl⟩
                  rw [← hw4] at hG hQ k0 k1 k2 k3 hbw
                  rw [show (w2.alloc (.cells #[.int .i64 0, .int .i64 0, .int .i64 0, .int .i64 0, .slice none 0 0] tH)).drew = w4 from hw4.symm]
                  clear hbW hw4 hGe
                  have z0 := hG.cell 0
                  have z1 := hG.cell 1
                  have z2 := hG.cell 2
                  have z3 := hG.cell 3
                  have z4 := hG.cell 4
                  simp only [zeroH, List.getElem?_cons_zero, List.getElem?_cons_succ] at z0 z1 z2 z3 z4
                  have y0 := hG.free 0
                  have y1 := hG.free 1
                  have y2 := hG.free 2
                  have y3 := hG.free 3
                  have y4 := hG.free 4
                  refine Rc.ord_loud rfl (fun K hK => ?_)
                  go_simp
                  refine hK _ _ (fun hf => absurd (show Rc.sink _ 14 = true from by kernel_rfl) (by rw [hf]; decide)) ?_
                  clear hK K z0 z1 z2 z3 z4 y0 y1 y2 y3 y4
                  have hG5 := (((((hG.put 0 (.int .i64 (n0 : Int))).put 1 (.int .i64 (n1 : Int))).put 2 (.int .i64 (n2 : Int))).put 3 (.int .i64 (n3 : Int))).put 4 (.slice none 0 0))
                  simp only [zeroH, List.set_cons_zero, List.set_cons_succ] at hG5
                  have hQ5 := (((((hQ.off hqG (i := 0) (.int .i64 (n0 : Int))).off hqG (i := 1) (.int .i64 (n1 : Int))).off hqG (i := 2) (.int .i64 (n2 : Int))).off hqG (i := 3) (.int .i64 (n3 : Int))).off hqG (i := 4) (.slice none 0 0))
                  have hb5 := (((((hbw.setCell (p := ⟨G, 0, none⟩) hqle (.int .i64 (n0 : Int))).setCell (p := ⟨G, 1, none⟩) hqle (.int .i64 (n1 : Int))).setCell (p := ⟨G, 2, none⟩) hqle (.int .i64 (n2 : Int))).setCell (p := ⟨G, 3, none⟩) hqle (.int .i64 (n3 : Int))).setCell (p := ⟨G, 4, none⟩) hqle (.slice none 0 0))
                  obtain ⟨w5, hw5⟩ : ∃ w5, w5 = (((((w4.setCell ⟨G, 0, none⟩ (.int .i64 (n0 : Int))).setCell ⟨G, 1, none⟩ (.int .i64 (n1 : Int))).setCell ⟨G, 2, none⟩ (.int .i64 (n2 : Int))).setCell ⟨G, 3, none⟩ (.int .i64 (n3 : Int))).setCell ⟨G, 4, none⟩ (.slice none 0 0)) := ⟨_, rfl⟩
                  rw [← hw5] at hG5 hQ5 hb5 ⊢
                  clear hw5 hG hQ hbw k0 k1 k2 k3 g0 g1 g2 g3
                  refine Rc.ord_nil ?_
                  have z0 := hG5.cell 0
                  have z1 := hG5.cell 1
                  have z2 := hG5.cell 2
                  have z3 := hG5.cell 3
                  have z4 := hG5.cell 4
                  have x0 := hQ5.cell 0
                  have x1 := hQ5.cell 1
                  have x2 := hQ5.cell 2
                  have x3 := hQ5.cell 3
                  have x4 := hQ5.cell 4
                  simp only [zeroH, List.getElem?_cons_zero, List.getElem?_cons_succ] at z0 z1 z2 z3 z4 x0 x1 x2 x3 x4
                  have y0 := hG5.free 0
                  have y1 := hG5.free 1
                  have y2 := hG5.free 2
                  have y3 := hG5.free 3
                  have y4 := hG5.free 4
                  have v0 := hQ5.free 0
                  have v1 := hQ5.free 1
                  have v2 := hQ5.free 2
                  have v3 := hQ5.free 3
                  have v4 := hQ5.free 4
                  have hs0 : IntKind.i64.wrap ((n0 : Int) - 1) = (n0 : Int) - 1 := IntWalk.i64_in _ (by omega)
                  have hs2 : IntKind.i64.wrap ((n2 : Int) - 1) = (n2 : Int) - 1 := IntWalk.i64_in _ (by omega)
                  go_wp2
                  have hrf := (((((((hQ5.off hqG (i := 0) (.int .i64 ((n0 : Int) - 1))).off hqG (i := 2) (.int .i64 ((n2 : Int) - 1))).put 0 (.int .i64 ((n0 : Int) - 1))).put 1 (.int .i64 (n1 : Int))).put 2 (.int .i64 ((n2 : Int) - 1))).put 3 (.int .i64 (n3 : Int))).put 4 (.slice none 0 0))
                  simp only [zeroH, List.set_cons_zero, List.set_cons_succ] at hrf
                  have hbf := (((((((hb5.setCell (p := ⟨G, 0, none⟩) hqle (.int .i64 ((n0 : Int) - 1))).setCell (p := ⟨G, 2, none⟩) hqle (.int .i64 ((n2 : Int) - 1))).setCell (p := ⟨q, 0, none⟩) (Nat.le_refl q) (.int .i64 ((n0 : Int) - 1))).setCell (p := ⟨q, 1, none⟩) (Nat.le_refl q) (.int .i64 (n1 : Int))).setCell (p := ⟨q, 2, none⟩) (Nat.le_refl q) (.int .i64 ((n2 : Int) - 1))).setCell (p := ⟨q, 3, none⟩) (Nat.le_refl q) (.int .i64 (n3 : Int))).setCell (p := ⟨q, 4, none⟩) (Nat.le_refl q) (.slice none 0 0))
                  unfold Row at hrf
                  refine bodyPost_ret (results_ct rfl _ _ q tH _ (0, 0) _ rfl hrf Tryd.underlying31 rfl sizeHk) rfl ⟨by rw [HF.out]; rfl, by rw [← Hq.out]; exact hbf⟩
                · skip
                  have HF := hide (show rhead s = some ⟨((n0 : Int) - 1), n1, (n2 : Int), n3, []⟩ by rw [Hrh.out, hof, if_pos ⟨Hcl.out, Hok.out⟩, lowP, lowP, if_pos hf1, if_neg hf3])
                  have d1 : decide ((0 : Int) < (n1 : Int)) = true := decide_eq_true (by omega)
                  have d3 : decide ((0 : Int) < (n3 : Int)) = false := decide_eq_false (by omega)
                  have e1 : decide (0 < n1) = true := decide_eq_true (by omega)
                  have e3 : decide (0 < n3) = false := decide_eq_false (by omega)
                  have Hf13 := hide (And.intro hf1 hf3)
                  go_wp2
                  refine Rc.wp_region_ord (fun w' => w'.cell? ⟨g, 0, none⟩ = some (.int .i64 (n0 : Int)) ∧ w'.cell? ⟨g, 1, none⟩ = some (.int .i64 (n1 : Int)) ∧ w'.cell? ⟨g, 2, none⟩ = some (.int .i64 (n2 : Int)) ∧ w'.cell? ⟨g, 3, none⟩ = some (.int .i64 (n3 : Int))) [(0, true), (1, true), (2, true), (3, true), (4, true), (5, true), (6, true), (7, true), (8, true), (9, true), (10, true), (11, true), (12, true), (13, false), (14, false)] (by kernel_rfl) (by kernel_rfl) ?_
                  simp only [Rg.pick, List.map_cons, List.map_nil, List.getD_cons_zero, List.getD_cons_succ]
                  iterate 13 (refine Rc.ord_quiet (v := ?_) rfl (fun w' hS => ?_) ⟨g0, g1, g2, g3⟩ ?_; rotate_left; (obtain ⟨s0, s1, s2, s3⟩ := hS; go_simp; with_reducible rfl); simp only [Act.put, List.setIfInBounds_toArray, List.set_cons_succ, List.set_cons_zero])
                  refine Rc.ord_loud rfl (fun K hK => ?_)
                  go_simp
                  have hbW : Below w2.heap.size w2 (w2.alloc (.cells zeroH.toArray tH)).drew := ((Below.refl _ w2).alloc (Nat.le_refl _) _).drew
                  have k0 := cell_keep hbW g0
                  have k1 := cell_keep hbW g1
                  have k2 := cell_keep hbW g2
                  have k3 := cell_keep hbW g3
                  have hG : Row (w2.alloc (.cells zeroH.toArray tH)).drew w2.heap.size tH zeroH := (Row.fresh w2 tH zeroH.toArray).drew
                  have hQ : Row (w2.alloc (.cells zeroH.toArray tH)).drew q tH zeroH := (Hrq.out.alloc _).drew
                  have hbw := (Hbw.out.alloc (Nat.le_trans (by omega) (Nat.le_of_lt Hrq.out.lt)) (.cells zeroH.toArray tH)).drew
                  have hGq : ¬ w2.heap.size = q := by have := Hrq.out.lt; omega
                  have hqG : ¬ q = w2.heap.size := by have := Hrq.out.lt; omega
                  have hqle : q ≤ w2.heap.size := Nat.le_of_lt Hrq.out.lt
                  refine hK _ _ (fun _ => ⟨k0, k1, k2, k3⟩) ?_
                  clear hK K
                  obtain ⟨G, hGe⟩ : ∃ G, G = w2.heap.size := ⟨_, rfl⟩
                  rw [← hGe] at hG hGq hqG hqle ⊢
                  obtain ⟨w4, hw4⟩ : ∃ w4, w4 = (w2.alloc (.cells zeroH.toArray tH)).drew := ⟨_, rfl⟩
                  rw [← hw4] at hG hQ k0 k1 k2 k3 hbw
                  rw [show (w2.alloc (.cells #[.int .i64 0, .int .i64 0, .int .i64 0, .int .i64 0, .slice none 0 0] tH)).drew = w4 from hw4.symm]
                  clear hbW hw4 hGe
                  have z0 := hG.cell 0
                  have z1 := hG.cell 1
                  have z2 := hG.cell 2
                  have z3 := hG.cell 3
                  have z4 := hG.cell 4
                  simp only [zeroH, List.getElem?_cons_zero, List.getElem?_cons_succ] at z0 z1 z2 z3 z4
                  have y0 := hG.free 0
                  have y1 := hG.free 1
                  have y2 := hG.free 2
                  have y3 := hG.free 3
                  have y4 := hG.free 4
                  refine Rc.ord_loud rfl (fun K hK => ?_)
                  go_simp
                  refine hK _ _ (fun hf => absurd (show Rc.sink _ 14 = true from by kernel_rfl) (by rw [hf]; decide)) ?_
                  clear hK K z0 z1 z2 z3 z4 y0 y1 y2 y3 y4
                  have hG5 := (((((hG.put 0 (.int .i64 (n0 : Int))).put 1 (.int .i64 (n1 : Int))).put 2 (.int .i64 (n2 : Int))).put 3 (.int .i64 (n3 : Int))).put 4 (.slice none 0 0))
                  simp only [zeroH, List.set_cons_zero, List.set_cons_succ] at hG5
                  have hQ5 := (((((hQ.off hqG (i := 0) (.int .i64 (n0 : Int))).off hqG (i := 1) (.int .i64 (n1 : Int))).off hqG (i := 2) (.int .i64 (n2 : Int))).off hqG (i := 3) (.int .i64 (n3 : Int))).off hqG (i := 4) (.slice none 0 0))
                  have hb5 := (((((hbw.setCell (p := ⟨G, 0, none⟩) hqle (.int .i64 (n0 : Int))).setCell (p := ⟨G, 1, none⟩) hqle (.int .i64 (n1 : Int))).setCell (p := ⟨G, 2, none⟩) hqle (.int .i64 (n2 : Int))).setCell (p := ⟨G, 3, none⟩) hqle (.int .i64 (n3 : Int))).setCell (p := ⟨G, 4, none⟩) hqle (.slice none 0 0))
                  obtain ⟨w5, hw5⟩ : ∃ w5, w5 = (((((w4.setCell ⟨G, 0, none⟩ (.int .i64 (n0 : Int))).setCell ⟨G, 1, none⟩ (.int .i64 (n1 : Int))).setCell ⟨G, 2, none⟩ (.int .i64 (n2 : Int))).setCell ⟨G, 3, none⟩ (.int .i64 (n3 : Int))).setCell ⟨G, 4, none⟩ (.slice none 0 0)) := ⟨_, rfl⟩
                  rw [← hw5] at hG5 hQ5 hb5 ⊢
                  clear hw5 hG hQ hbw k0 k1 k2 k3 g0 g1 g2 g3
                  refine Rc.ord_nil ?_
                  have z0 := hG5.cell 0
                  have z1 := hG5.cell 1
                  have z2 := hG5.cell 2
                  have z3 := hG5.cell 3
                  have z4 := hG5.cell 4
                  have x0 := hQ5.cell 0
                  have x1 := hQ5.cell 1
                  have x2 := hQ5.cell 2
                  have x3 := hQ5.cell 3
                  have x4 := hQ5.cell 4
                  simp only [zeroH, List.getElem?_cons_zero, List.getElem?_cons_succ] at z0 z1 z2 z3 z4 x0 x1 x2 x3 x4
                  have y0 := hG5.free 0
                  have y1 := hG5.free 1
                  have y2 := hG5.free 2
                  have y3 := hG5.free 3
                  have y4 := hG5.free 4
                  have v0 := hQ5.free 0
                  have v1 := hQ5.free 1
                  have v2 := hQ5.free 2
                  have v3 := hQ5.free 3
                  have v4 := hQ5.free 4
                  have hs0 : IntKind.i64.wrap ((n0 : Int) - 1) = (n0 : Int) - 1 := IntWalk.i64_in _ (by omega)
                  have hs2 : IntKind.i64.wrap ((n2 : Int) - 1) = (n2 : Int) - 1 := IntWalk.i64_in _ (by omega)
                  go_wp2
                  have hrf := ((((((hQ5.off hqG (i := 0) (.int .i64 ((n0 : Int) - 1))).put 0 (.int .i64 ((n0 : Int) - 1))).put 1 (.int .i64 (n1 : Int))).put 2 (.int .i64 (n2 : Int))).put 3 (.int .i64 (n3 : Int))).put 4 (.slice none 0 0))
                  simp only [zeroH, List.set_cons_zero, List.set_cons_succ] at hrf
                  have hbf := ((((((hb5.setCell (p := ⟨G, 0, none⟩) hqle (.int .i64 ((n0 : Int) - 1))).setCell (p := ⟨q, 0, none⟩) (Nat.le_refl q) (.int .i64 ((n0 : Int) - 1))).setCell (p := ⟨q, 1, none⟩) (Nat.le_refl q) (.int .i64 (n1 : Int))).setCell (p := ⟨q, 2, none⟩) (Nat.le_refl q) (.int .i64 (n2 : Int))).setCell (p := ⟨q, 3, none⟩) (Nat.le_refl q) (.int .i64 (n3 : Int))).setCell (p := ⟨q, 4, none⟩) (Nat.le_refl q) (.slice none 0 0))
                  unfold Row at hrf
                  refine bodyPost_ret (results_ct rfl _ _ q tH _ (0, 0) _ rfl hrf Tryd.underlying31 rfl sizeHk) rfl ⟨by rw [HF.out]; rfl, by rw [← Hq.out]; exact hbf⟩
              · skip
                by_cases hf3 : 0 < n3
                · skip
                  have HF := hide (show rhead s = some ⟨(n0 : Int), n1, ((n2 : Int) - 1), n3, []⟩ by rw [Hrh.out, hof, if_pos ⟨Hcl.out, Hok.out⟩, lowP, lowP, if_neg hf1, if_pos hf3])
                  have d1 : decide ((0 : Int) < (n1 : Int)) = false := decide_eq_false (by omega)
                  have d3 : decide ((0 : Int) < (n3 : Int)) = true := decide_eq_true (by omega)
                  have e1 : decide (0 < n1) = false := decide_eq_false (by omega)
                  have e3 : decide (0 < n3) = true := decide_eq_true (by omega)
                  have Hf13 := hide (And.intro hf1 hf3)
                  go_wp2
                  refine Rc.wp_region_ord (fun w' => w'.cell? ⟨g, 0, none⟩ = some (.int .i64 (n0 : Int)) ∧ w'.cell? ⟨g, 1, none⟩ = some (.int .i64 (n1 : Int)) ∧ w'.cell? ⟨g, 2, none⟩ = some (.int .i64 (n2 : Int)) ∧ w'.cell? ⟨g, 3, none⟩ = some (.int .i64 (n3 : Int))) [(0, true), (1, true), (2, true), (3, true), (4, true), (5, true), (6, true), (7, true), (8, true), (9, true), (10, true), (11, true), (12, true), (13, false), (14, false)] (by kernel_rfl) (by kernel_rfl) ?_
                  simp only [Rg.pick, List.map_cons, List.map_nil, List.getD_cons_zero, List.getD_cons_succ]
                  iterate 13 (refine Rc.ord_quiet (v := ?_) rfl (fun w' hS => ?_) ⟨g0, g1, g2, g3⟩ ?_; rotate_left; (obtain ⟨s0, s1, s2, s3⟩ := hS; go_simp; with_reducible rfl); simp only [Act.put, List.setIfInBounds_toArray, List.set_cons_succ, List.set_cons_zero])
                  refine Rc.ord_loud rfl (fun K hK => ?_)
                  go_simp
                  have hbW : Below w2.heap.size w2 (w2.alloc (.cells zeroH.toArray tH)).drew := ((Below.refl _ w2).alloc (Nat.le_refl _) _).drew
                  have k0 := cell_keep hbW g0
                  have k1 := cell_keep hbW g1
                  have k2 := cell_keep hbW g2
                  have k3 := cell_keep hbW g3
                  have hG : Row (w2.alloc (.cells zeroH.toArray tH)).drew w2.heap.size tH zeroH := (Row.fresh w2 tH zeroH.toArray).drew
                  have hQ : Row (w2.alloc (.cells zeroH.toArray tH)).drew q tH zeroH := (Hrq.out.alloc _).drew
                  have hbw := (Hbw.out.alloc (Nat.le_trans (by omega) (Nat.le_of_lt Hrq.out.lt)) (.cells zeroH.toArray tH)).drew
                  have hGq : ¬ w2.heap.size = q := by have := Hrq.out.lt; omega
                  have hqG : ¬ q = w2.heap.size := by have := Hrq.out.lt; omega
                  have hqle : q ≤ w2.heap.size := Nat.le_of_lt Hrq.out.lt
                  refine hK _ _ (fun _ => ⟨k0, k1, k2, k3⟩) ?_
                  clear hK K
                  obtain ⟨G, hGe⟩ : ∃ G, G = w2.heap.size := ⟨_, rfl⟩
                  rw [← hGe] at hG hGq hqG hqle ⊢
                  obtain ⟨w4, hw4⟩ : ∃ w4, w4 = (w2.alloc (.cells zeroH.toArray tH)).drew := ⟨_, rfl⟩
                  rw [← hw4] at hG hQ k0 k1 k2 k3 hbw
                  rw [show (w2.alloc (.cells #[.int .i64 0, .int .i64 0, .int .i64 0, .int .i64 0, .slice none 0 0] tH)).drew = w4 from hw4.symm]
                  clear hbW hw4 hGe
                  have z0 := hG.cell 0
                  have z1 := hG.cell 1
                  have z2 := hG.cell 2
                  have z3 := hG.cell 3
                  have z4 := hG.cell 4
                  simp only [zeroH, List.getElem?_cons_zero, List.getElem?_cons_succ] at z0 z1 z2 z3 z4
                  have y0 := hG.free 0
                  have y1 := hG.free 1
                  have y2 := hG.free 2
                  have y3 := hG.free 3
                  have y4 := hG.free 4
                  refine Rc.ord_loud rfl (fun K hK => ?_)
                  go_simp
                  refine hK _ _ (fun hf => absurd (show Rc.sink _ 14 = true from by kernel_rfl) (by rw [hf]; decide)) ?_
                  clear hK K z0 z1 z2 z3 z4 y0 y1 y2 y3 y4
                  have hG5 := (((((hG.put 0 (.int .i64 (n0 : Int))).put 1 (.int .i64 (n1 : Int))).put 2 (.int .i64 (n2 : Int))).put 3 (.int .i64 (n3 : Int))).put 4 (.slice none 0 0))
                  simp only [zeroH, List.set_cons_zero, List.set_cons_succ] at hG5
                  have hQ5 := (((((hQ.off hqG (i := 0) (.int .i64 (n0 : Int))).off hqG (i := 1) (.int .i64 (n1 : Int))).off hqG (i := 2) (.int .i64 (n2 : Int))).off hqG (i := 3) (.int .i64 (n3 : Int))).off hqG (i := 4) (.slice none 0 0))
                  have hb5 := (((((hbw.setCell (p := ⟨G, 0, none⟩) hqle (.int .i64 (n0 : Int))).setCell (p := ⟨G, 1, none⟩) hqle (.int .i64 (n1 : Int))).setCell (p := ⟨G, 2, none⟩) hqle (.int .i64 (n2 : Int))).setCell (p := ⟨G, 3, none⟩) hqle (.int .i64 (n3 : Int))).setCell (p := ⟨G, 4, none⟩) hqle (.slice none 0 0))
                  obtain ⟨w5, hw5⟩ : ∃ w5, w5 = (((((w4.setCell ⟨G, 0, none⟩ (.int .i64 (n0 : Int))).setCell ⟨G, 1, none⟩ (.int .i64 (n1 : Int))).setCell ⟨G, 2, none⟩ (.int .i64 (n2 : Int))).setCell ⟨G, 3, none⟩ (.int .i64 (n3 : Int))).setCell ⟨G, 4, none⟩ (.slice none 0 0)) := ⟨_, rfl⟩
                  rw [← hw5] at hG5 hQ5 hb5 ⊢
                  clear hw5 hG hQ hbw k0 k1 k2 k3 g0 g1 g2 g3
                  refine Rc.ord_nil ?_
                  have z0 := hG5.cell 0
                  have z1 := hG5.cell 1
                  have z2 := hG5.cell 2
                  have z3 := hG5.cell 3
                  have z4 := hG5.cell 4
                  have x0 := hQ5.cell 0
                  have x1 := hQ5.cell 1
                  have x2 := hQ5.cell 2
                  have x3 := hQ5.cell 3
                  have x4 := hQ5.cell 4
                  simp only [zeroH, List.getElem?_cons_zero, List.getElem?_cons_succ] at z0 z1 z2 z3 z4 x0 x1 x2 x3 x4
                  have y0 := hG5.free 0
                  have y1 := hG5.free 1
                  have y2 := hG5.free 2
                  have y3 := hG5.free 3
                  have y4 := hG5.free 4
                  have v0 := hQ5.free 0
                  have v1 := hQ5.free 1
                  have v2 := hQ5.free 2
                  have v3 := hQ5.free 3
                  have v4 := hQ5.free 4
                  have hs0 : IntKind.i64.wrap ((n0 : Int) - 1) = (n0 : Int) - 1 := IntWalk.i64_in _ (by omega)
                  have hs2 : IntKind.i64.wrap ((n2 : Int) - 1) = (n2 : Int) - 1 := IntWalk.i64_in _ (by omega)
                  go_wp2
                  have hrf := ((((((hQ5.off hqG (i := 2) (.int .i64 ((n2 : Int) - 1))).put 0 (.int .i64 (n0 : Int))).put 1 (.int .i64 (n1 : Int))).put 2 (.int .i64 ((n2 : Int) - 1))).put 3 (.int .i64 (n3 : Int))).put 4 (.slice none 0 0))
                  simp only [zeroH, List.set_cons_zero, List.set_cons_succ] at hrf
                  have hbf := ((((((hb5.setCell (p := ⟨G, 2, none⟩) hqle (.int .i64 ((n2 : Int) - 1))).setCell (p := ⟨q, 0, none⟩) (Nat.le_refl q) (.int .i64 (n0 : Int))).setCell (p := ⟨q, 1, none⟩) (Nat.le_refl q) (.int .i64 (n1 : Int))).setCell (p := ⟨q, 2, none⟩) (Nat.le_refl q) (.int .i64 ((n2 : Int) - 1))).setCell (p := ⟨q, 3, none⟩) (Nat.le_refl q) (.int .i64 (n3 : Int))).setCell (p := ⟨q, 4, none⟩) (Nat.le_refl q) (.slice none 0 0))
                  unfold Row at hrf
                  refine bodyPost_ret (results_ct rfl _ _ q tH _ (0, 0) _ rfl hrf Tryd.underlying31 rfl sizeHk) rfl ⟨by rw [HF.out]; rfl, by rw [← Hq.out]; exact hbf⟩
                · skip
                  have HF := hide (show rhead s = some ⟨(n0 : Int), n1, (n2 : Int), n3, []⟩ by rw [Hrh.out, hof, if_pos ⟨Hcl.out, Hok.out⟩, lowP, lowP, if_neg hf1, if_neg hf3])
                  have d1 : decide ((0 : Int) < (n1 : Int)) = false := decide_eq_false (by omega)
                  have d3 : decide ((0 : Int) < (n3 : Int)) = false := decide_eq_false (by omega)
                  have e1 : decide (0 < n1) = false := decide_eq_false (by omega)
                  have e3 : decide (0 < n3) = false := decide_eq_false (by omega)
                  have Hf13 := hide (And.intro hf1 hf3)
                  go_wp2
                  refine Rc.wp_region_ord (fun w' => w'.cell? ⟨g, 0, none⟩ = some (.int .i64 (n0 : Int)) ∧ w'.cell? ⟨g, 1, none⟩ = some (.int .i64 (n1 : Int)) ∧ w'.cell? ⟨g, 2, none⟩ = some (.int .i64 (n2 : Int)) ∧ w'.cell? ⟨g, 3, none⟩ = some (.int .i64 (n3 : Int))) [(0, true), (1, true), (2, true), (3, true), (4, true), (5, true), (6, true), (7, true), (8, true), (9, true), (10, true), (11, true), (12, true), (13, false), (14, false)] (by kernel_rfl) (by kernel_rfl) ?_
                  simp only [Rg.pick, List.map_cons, List.map_nil, List.getD_cons_zero, List.getD_cons_succ]
                  iterate 13 (refine Rc.ord_quiet (v := ?_) rfl (fun w' hS => ?_) ⟨g0, g1, g2, g3⟩ ?_; rotate_left; (obtain ⟨s0, s1, s2, s3⟩ := hS; go_simp; with_reducible rfl); simp only [Act.put, List.setIfInBounds_toArray, List.set_cons_succ, List.set_cons_zero])
                  refine Rc.ord_loud rfl (fun K hK => ?_)
                  go_simp
                  have hbW : Below w2.heap.size w2 (w2.alloc (.cells zeroH.toArray tH)).drew := ((Below.refl _ w2).alloc (Nat.le_refl _) _).drew
                  have k0 := cell_keep hbW g0
                  have k1 := cell_keep hbW g1
                  have k2 := cell_keep hbW g2
                  have k3 := cell_keep hbW g3
                  have hG : Row (w2.alloc (.cells zeroH.toArray tH)).drew w2.heap.size tH zeroH := (Row.fresh w2 tH zeroH.toArray).drew
                  have hQ : Row (w2.alloc (.cells zeroH.toArray tH)).drew q tH zeroH := (Hrq.out.alloc _).drew
                  have hbw := (Hbw.out.alloc (Nat.le_trans (by omega) (Nat.le_of_lt Hrq.out.lt)) (.cells zeroH.toArray tH)).drew
                  have hGq : ¬ w2.heap.size = q := by have := Hrq.out.lt; omega
                  have hqG : ¬ q = w2.heap.size := by have := Hrq.out.lt; omega
                  have hqle : q ≤ w2.heap.size := Nat.le_of_lt Hrq.out.lt
                  refine hK _ _ (fun _ => ⟨k0, k1, k2, k3⟩) ?_
                  clear hK K
                  obtain ⟨G, hGe⟩ : ∃ G, G = w2.heap.size := ⟨_, rfl⟩
                  rw [← hGe] at hG hGq hqG hqle ⊢
                  obtain ⟨w4, hw4⟩ : ∃ w4, w4 = (w2.alloc (.cells zeroH.toArray tH)).drew := ⟨_, rfl⟩
                  rw [← hw4] at hG hQ k0 k1 k2 k3 hbw
                  rw [show (w2.alloc (.cells #[.int .i64 0, .int .i64 0, .int .i64 0, .int .i64 0, .slice none 0 0] tH)).drew = w4 from hw4.symm]
                  clear hbW hw4 hGe
                  have z0 := hG.cell 0
                  have z1 := hG.cell 1
                  have z2 := hG.cell 2
                  have z3 := hG.cell 3
                  have z4 := hG.cell 4
                  simp only [zeroH, List.getElem?_cons_zero, List.getElem?_cons_succ] at z0 z1 z2 z3 z4
                  have y0 := hG.free 0
                  have y1 := hG.free 1
                  have y2 := hG.free 2
                  have y3 := hG.free 3
                  have y4 := hG.free 4
                  refine Rc.ord_loud rfl (fun K hK => ?_)
                  go_simp
                  refine hK _ _ (fun hf => absurd (show Rc.sink _ 14 = true from by kernel_rfl) (by rw [hf]; decide)) ?_
                  clear hK K z0 z1 z2 z3 z4 y0 y1 y2 y3 y4
                  have hG5 := (((((hG.put 0 (.int .i64 (n0 : Int))).put 1 (.int .i64 (n1 : Int))).put 2 (.int .i64 (n2 : Int))).put 3 (.int .i64 (n3 : Int))).put 4 (.slice none 0 0))
                  simp only [zeroH, List.set_cons_zero, List.set_cons_succ] at hG5
                  have hQ5 := (((((hQ.off hqG (i := 0) (.int .i64 (n0 : Int))).off hqG (i := 1) (.int .i64 (n1 : Int))).off hqG (i := 2) (.int .i64 (n2 : Int))).off hqG (i := 3) (.int .i64 (n3 : Int))).off hqG (i := 4) (.slice none 0 0))
                  have hb5 := (((((hbw.setCell (p := ⟨G, 0, none⟩) hqle (.int .i64 (n0 : Int))).setCell (p := ⟨G, 1, none⟩) hqle (.int .i64 (n1 : Int))).setCell (p := ⟨G, 2, none⟩) hqle (.int .i64 (n2 : Int))).setCell (p := ⟨G, 3, none⟩) hqle (.int .i64 (n3 : Int))).setCell (p := ⟨G, 4, none⟩) hqle (.slice none 0 0))
                  obtain ⟨w5, hw5⟩ : ∃ w5, w5 = (((((w4.setCell ⟨G, 0, none⟩ (.int .i64 (n0 : Int))).setCell ⟨G, 1, none⟩ (.int .i64 (n1 : Int))).setCell ⟨G, 2, none⟩ (.int .i64 (n2 : Int))).setCell ⟨G, 3, none⟩ (.int .i64 (n3 : Int))).setCell ⟨G, 4, none⟩ (.slice none 0 0)) := ⟨_, rfl⟩
                  rw [← hw5] at hG5 hQ5 hb5 ⊢
                  clear hw5 hG hQ hbw k0 k1 k2 k3 g0 g1 g2 g3
                  refine Rc.ord_nil ?_
                  have z0 := hG5.cell 0
                  have z1 := hG5.cell 1
                  have z2 := hG5.cell 2
                  have z3 := hG5.cell 3
                  have z4 := hG5.cell 4
                  have x0 := hQ5.cell 0
                  have x1 := hQ5.cell 1
                  have x2 := hQ5.cell 2
                  have x3 := hQ5.cell 3
                  have x4 := hQ5.cell 4
                  simp only [zeroH, List.getElem?_cons_zero, List.getElem?_cons_succ] at z0 z1 z2 z3 z4 x0 x1 x2 x3 x4
                  have y0 := hG5.free 0
                  have y1 := hG5.free 1
                  have y2 := hG5.free 2
                  have y3 := hG5.free 3
                  have y4 := hG5.free 4
                  have v0 := hQ5.free 0
                  have v1 := hQ5.free 1
                  have v2 := hQ5.free 2
                  have v3 := hQ5.free 3
                  have v4 := hQ5.free 4
                  have hs0 : IntKind.i64.wrap ((n0 : Int) - 1) = (n0 : Int) - 1 := IntWalk.i64_in _ (by omega)
                  have hs2 : IntKind.i64.wrap ((n2 : Int) - 1) = (n2 : Int) - 1 := IntWalk.i64_in _ (by omega)
                  go_wp2
                  have hrf := (((((hQ5.put 0 (.int .i64 (n0 : Int))).put 1 (.int .i64 (n1 : Int))).put 2 (.int .i64 (n2 : Int))).put 3 (.int .i64 (n3 : Int))).put 4 (.slice none 0 0))
                  simp only [zeroH, List.set_cons_zero, List.set_cons_succ] at hrf
                  have hbf := (((((hb5.setCell (p := ⟨q, 0, none⟩) (Nat.le_refl q) (.int .i64 (n0 : Int))).setCell (p := ⟨q, 1, none⟩) (Nat.le_refl q) (.int .i64 (n1 : Int))).setCell (p := ⟨q, 2, none⟩) (Nat.le_refl q) (.int .i64 (n2 : Int))).setCell (p := ⟨q, 3, none⟩) (Nat.le_refl q) (.int .i64 (n3 : Int))).setCell (p := ⟨q, 4, none⟩) (Nat.le_refl q) (.slice none 0 0))
                  unfold Row at hrf
                  refine bodyPost_ret (results_ct rfl _ _ q tH _ (0, 0) _ rfl hrf Tryd.underlying31 rfl sizeHk) rfl ⟨by rw [HF.out]; rfl, by rw [← Hq.out]; exact hbf⟩
        · have hbad := Decidable.of_not_not hok
          have HF := hide (show rhead s = none by rw [Hrh.out, hof, if_neg (fun h => h.2 hbad)])
          clear hok
          by_cases hb0 : n0 = 0 ∧ 0 < n1
          · skip
            have z0 : ((n0 : Int) == 0) = true := by rw [beq_iff_eq]; omega
            have d1 : decide ((0 : Int) < (n1 : Int)) = true := decide_eq_true (by omega)
            have e1 : decide (0 < n1) = true := decide_eq_true (by omega)
            clear hbad hb0
            go_wp2_with fail
            refine HW.out.mono ?_
            rintro y w2 ⟨rfl, rfl⟩
            have hr0 : Row w2 q tH [.int .i64 0, .int .i64 0, .int .i64 0, .int .i64 0, .slice none 0 0] := Hrq.out
            have z0 := hr0.cell 0
            have z1 := hr0.cell 1
            have z2 := hr0.cell 2
            have z3 := hr0.cell 3
            have z4 := hr0.cell 4
            simp only [List.getElem?_cons_zero, List.getElem?_cons_succ] at z0 z1 z2 z3 z4
            have y0 := hr0.free 0
            have y1 := hr0.free 1
            have y2 := hr0.free 2
            have y3 := hr0.free 3
            have y4 := hr0.free 4
            go_wp2
            have hrf := ((((hr0.put 0 (.int .i64 0)).put 1 (.int .i64 0)).put 2 (.int .i64 0)).put 3 (.int .i64 0)).put 4 (.slice none 0 0)
            simp only [List.set_cons_zero, List.set_cons_succ] at hrf
            have hbf := ((((Hbw.out.setCell (p := ⟨q, 0, none⟩) (Nat.le_refl q) (.int .i64 0)).setCell (p := ⟨q, 1, none⟩) (Nat.le_refl q) (.int .i64 0)).setCell (p := ⟨q, 2, none⟩) (Nat.le_refl q) (.int .i64 0)).setCell (p := ⟨q, 3, none⟩) (Nat.le_refl q) (.int .i64 0)).setCell (p := ⟨q, 4, none⟩) (Nat.le_refl q) (.slice none 0 0)
            unfold Row at hrf
            refine bodyPost_ret (results_ct rfl _ _ q tH _ (0, 0) _ rfl hrf Tryd.underlying31 rfl sizeHk) rfl ⟨by rw [HF.out]; rfl, by rw [← Hq.out]; exact hbf⟩
          · have hb2 : n2 = 0 ∧ 0 < n3 := by omega
            by_cases hz0 : n0 = 0
            · skip
              have z0 : ((n0 : Int) == 0) = true := by rw [beq_iff_eq]; omega
              have d1 : decide ((0 : Int) < (n1 : Int)) = false := decide_eq_false (by omega)
              have e1 : decide (0 < n1) = false := decide_eq_false (by omega)
              have z2 : ((n2 : Int) == 0) = true := by rw [beq_iff_eq]; omega
              have d3 : decide ((0 : Int) < (n3 : Int)) = true := decide_eq_true (by omega)
              have e3 : decide (0 < n3) = true := decide_eq_true (by omega)
              clear hbad hb0 hb2 hz0
              go_wp2_with fail
              refine HW.out.mono ?_
              rintro y w2 ⟨rfl, rfl⟩
              have hr0 : Row w2 q tH [.int .i64 0, .int .i64 0, .int .i64 0, .int .i64 0, .slice none 0 0] := Hrq.out
              have z0 := hr0.cell 0
              have z1 := hr0.cell 1
              have z2 := hr0.cell 2
              have z3 := hr0.cell 3
              have z4 := hr0.cell 4
              simp only [List.getElem?_cons_zero, List.getElem?_cons_succ] at z0 z1 z2 z3 z4
              have y0 := hr0.free 0
              have y1 := hr0.free 1
              have y2 := hr0.free 2
              have y3 := hr0.free 3
              have y4 := hr0.free 4
              go_wp2
              have hrf := ((((hr0.put 0 (.int .i64 0)).put 1 (.int .i64 0)).put 2 (.int .i64 0)).put 3 (.int .i64 0)).put 4 (.slice none 0 0)
              simp only [List.set_cons_zero, List.set_cons_succ] at hrf
              have hbf := ((((Hbw.out.setCell (p := ⟨q, 0, none⟩) (Nat.le_refl q) (.int .i64 0)).setCell (p := ⟨q, 1, none⟩) (Nat.le_refl q) (.int .i64 0)).setCell (p := ⟨q, 2, none⟩) (Nat.le_refl q) (.int .i64 0)).setCell (p := ⟨q, 3, none⟩) (Nat.le_refl q) (.int .i64 0)).setCell (p := ⟨q, 4, none⟩) (Nat.le_refl q) (.slice none 0 0)
              unfold Row at hrf
              refine bodyPost_ret (results_ct rfl _ _ q tH _ (0, 0) _ rfl hrf Tryd.underlying31 rfl sizeHk) rfl ⟨by rw [HF.out]; rfl, by rw [← Hq.out]; exact hbf⟩
            · skip
              have z0 : ((n0 : Int) == 0) = false := by rw [beq_eq_false_iff_ne]; omega
              have z2 : ((n2 : Int) == 0) = true := by rw [beq_iff_eq]; omega
              have d3 : decide ((0 : Int) < (n3 : Int)) = true := decide_eq_true (by omega)
              have e3 : decide (0 < n3) = true := decide_eq_true (by omega)
              clear hbad hb0 hb2 hz0
              go_wp2_with fail
              refine HW.out.mono ?_
              rintro y w2 ⟨rfl, rfl⟩
              have hr0 : Row w2 q tH [.int .i64 0, .int .i64 0, .int .i64 0, .int .i64 0, .slice none 0 0] := Hrq.out
              have z0 := hr0.cell 0
              have z1 := hr0.cell 1
              have z2 := hr0.cell 2
              have z3 := hr0.cell 3
              have z4 := hr0.cell 4
              simp only [List.getElem?_cons_zero, List.getElem?_cons_succ] at z0 z1 z2 z3 z4
              have y0 := hr0.free 0
              have y1 := hr0.free 1
              have y2 := hr0.free 2
              have y3 := hr0.free 3
              have y4 := hr0.free 4
              go_wp2
              have hrf := ((((hr0.put 0 (.int .i64 0)).put 1 (.int .i64 0)).put 2 (.int .i64 0)).put 3 (.int .i64 0)).put 4 (.slice none 0 0)
              simp only [List.set_cons_zero, List.set_cons_succ] at hrf
              have hbf := ((((Hbw.out.setCell (p := ⟨q, 0, none⟩) (Nat.le_refl q) (.int .i64 0)).setCell (p := ⟨q, 1, none⟩) (Nat.le_refl q) (.int .i64 0)).setCell (p := ⟨q, 2, none⟩) (Nat.le_refl q) (.int .i64 0)).setCell (p := ⟨q, 3, none⟩) (Nat.le_refl q) (.int .i64 0)).setCell (p := ⟨q, 4, none⟩) (Nat.le_refl q) (.slice none 0 0)
              unfold Row at hrf
              refine bodyPost_ret (results_ct rfl _ _ q tH _ (0, 0) _ rfl hrf Tryd.underlying31 rfl sizeHk) rfl ⟨by rw [HF.out]; rfl, by rw [← Hq.out]; exact hbf⟩
      · have HF := hide (show rhead s = none by rw [Hrh.out, hof, if_neg (fun h => hcl h.1)])
        obtain ⟨U, hU⟩ : ∃ U : Int, U = if closesB <+: s.drop t then ((t + closesB.length : Nat) : Int) else -1 := ⟨_, rfl⟩
        have HW := hide (word_any s closesB t wr Hl.out (by rw [← Hn.out]; exact ht) (by decide) U hU)
        have hsz := Hsz.out
        have hnn : (U != (n : Int)) = true := by
          rw [bne_iff_ne]
          intro h
          split at hU
          · rename_i hp
            obtain ⟨r, hr⟩ := hp
            have h1 := congrArg List.length hr
            rw [List.length_append, List.length_drop, ← Hn.out] at h1
            have h2 : r = [] := List.eq_nil_of_length_eq_zero (by omega)
            rw [h2, List.append_nil] at hr
            exact hcl hr.symm
          · omega
        clear hcl hU
        go_wp2_with fail
        refine HW.out.mono ?_
        rintro y w2 ⟨rfl, rfl⟩
        have hr0 : Row w2 q tH [.int .i64 0, .int .i64 0, .int .i64 0, .int .i64 0, .slice none 0 0] := Hrq.out
        have z0 := hr0.cell 0
        have z1 := hr0.cell 1
        have z2 := hr0.cell 2
        have z3 := hr0.cell 3
        have z4 := hr0.cell 4
        simp only [List.getElem?_cons_zero, List.getElem?_cons_succ] at z0 z1 z2 z3 z4
        have y0 := hr0.free 0
        have y1 := hr0.free 1
        have y2 := hr0.free 2
        have y3 := hr0.free 3
        have y4 := hr0.free 4
        go_wp2
        have hrf := ((((hr0.put 0 (.int .i64 0)).put 1 (.int .i64 0)).put 2 (.int .i64 0)).put 3 (.int .i64 0)).put 4 (.slice none 0 0)
        simp only [List.set_cons_zero, List.set_cons_succ] at hrf
        have hbf := ((((Hbw.out.setCell (p := ⟨q, 0, none⟩) (Nat.le_refl q) (.int .i64 0)).setCell (p := ⟨q, 1, none⟩) (Nat.le_refl q) (.int .i64 0)).setCell (p := ⟨q, 2, none⟩) (Nat.le_refl q) (.int .i64 0)).setCell (p := ⟨q, 3, none⟩) (Nat.le_refl q) (.int .i64 0)).setCell (p := ⟨q, 4, none⟩) (Nat.le_refl q) (.slice none 0 0)
        unfold Row at hrf
        refine bodyPost_ret (results_ct rfl _ _ q tH _ (0, 0) _ rfl hrf Tryd.underlying31 rfl sizeHk) rfl ⟨by rw [HF.out]; rfl, by rw [← Hq.out]; exact hbf⟩
end Go.Proofs.YtnehgogajghefaaDoor.Un
