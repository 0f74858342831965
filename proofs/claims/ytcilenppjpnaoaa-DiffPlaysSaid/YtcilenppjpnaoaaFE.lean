/-
  The reference's Turn.
-/
import Derived.Test.YtcilenppjpnaoaaFA
import Derived.Test.YtcilenppjpnaoaaEQ
import Derived.Test.YtcilenppjpnaoaaRegD
namespace Go.Proofs.Ytcilenppjpnaoaa.Df
open Go Go.RowKit Kt Lw Li

def moreOf : List Ed → Int
  | [] => 0
  | e :: l => (e.ins.length : Int) - e.del + moreOf l
theorem turn_snoc (a : Ls) (e : Ed) : ∀ (l : List Ed) (m : Int), turn a m (l ++ [e]) = turn a m l ++ [⟨e.pos + (m + moreOf l), e.ins.length, (a.drop e.pos.toNat).take e.del.toNat⟩]
  | [], m => by simp [turn, moreOf]
  | x :: l, m => by
    rw [List.cons_append, turn, turn_snoc a e l, turn, moreOf, List.cons_append]
    congr 5
    omega
theorem more_snoc (e : Ed) : ∀ l : List Ed, moreOf (l ++ [e]) = moreOf l + ((e.ins.length : Int) - e.del)
  | [] => by simp [moreOf]
  | x :: l => by rw [List.cons_append, moreOf, moreOf, more_snoc e l]; omega
theorem more_small (n : Nat) : ∀ (L : List Ed) (last : Int), -1 ≤ last → right n last L = true → ∀ k, moreOf (L.take k) ≤ size L ∧ -(size L) ≤ moreOf (L.take k)
  | [], _, _, _, k => by simp [moreOf, size]
  | e :: l, last, h1, hr, 0 => by
    have := size_pos (e :: l)
    simp [moreOf]; omega
  | e :: l, last, h1, hr, k + 1 => by
    obtain ⟨p, d, ep, ed, hpd, hlp, hne, hr'⟩ := right_head hr h1
    have := more_small n l _ (by omega) hr' k
    rw [List.take_succ_cons, moreOf, size, ed]
    omega
theorem right_each (n : Nat) : ∀ (L : List Ed) (last : Int), -1 ≤ last → right n last L = true → ∀ e ∈ L, ∃ p d : Nat, e.pos = p ∧ e.del = d ∧ p + d ≤ n
  | [], _, _, _, e, he => by cases he
  | a :: l, last, h1, hr, e, he => by
    obtain ⟨p, d, ep, ed, hpd, hlp, hne, hr'⟩ := right_head hr h1
    rcases List.mem_cons.1 he with rfl | he
    · exact ⟨p, d, ep, ed, hpd⟩
    · exact right_each n l _ (by omega) hr' e he
theorem take_more_one (L : List Ed) (k : Nat) (e : Ed) (h : L[k]? = some e) : L.take (k + 1) = L.take k ++ [e] := by
  rw [List.take_add_one, h]; rfl
theorem OwT.base {w : World} {B B' : Nat} {v : Value} {l : Ls} (h : OwT w B tS v l) (hb : B' ≤ B) : OwT w B' tS v l :=
  ⟨h.1, h.2.imp id fun ⟨g, cap, cur, hv', h1, h2⟩ => ⟨g, cap, cur, hv', Nat.le_trans hb h1, h2⟩⟩

theorem OwT.put {w : World} {B g : Nat} {v : Value} {l : Ls} (h : OwT w B tS v l) (hne : some g ≠ v.ownBlock) (i : Nat) (u : Value) : OwT (w.setCell ⟨g, i, none⟩ u) B tS v l :=
  World.ownsRow.kept (row := some g) h (grown_put (World.grownBy.refl w (some g)) u) (.inr hne.symm)

set_option maxHeartbeats 4000000 in
set_option maxRecDepth 100000 in
theorem refTurn_yes (a : Ls) (L : List Ed) (A A' : Option Addr) (c c' : Nat) (P : Nat → Prop) (w : World) (hs : Vs w P A c (texts a)) (hs' : Es w A' c' L) (hn : a.length ≤ 1000) (hl : L.length ≤ 1000)
    (hz : size L ≤ 100000000) (hr : right a.length (-1) L = true) :
    Calls Try.prog 24 #[.slice A a.length c, .slice A' L.length c'] w fun y w' => ∃ v, y = .returned v ∧ OwE w' w.heap.size v (turn a 0 L) ∧ Below w.heap.size w w' := by
  have Hs := hide hs.bound
  have HR1 := hide (fun w1 (hb : Below w.heap.size w w1) => refRight_any a.length L A' c' w1 (hs'.keep hb) (by omega) (by omega) (by omega))
  have Hs' := hide hs'
  have Hmo := hide (more_small _ L (-1) (by omega) hr)
  have Hea := hide (right_each _ L (-1) (by omega) hr)
  have Hsm := hide (size_mem L)
  have Hz := hide hz
  have hcap := hs.1
  rw [texts_len] at hcap
  obtain ⟨N, hN⟩ : ∃ N, N = L.length := ⟨_, rfl⟩
  rw [← hN] at hl HR1 ⊢
  have HN := hide hN
  obtain ⟨n, hna⟩ : ∃ n, n = a.length := ⟨_, rfl⟩
  rw [← hna] at hn hcap HR1 Hea ⊢
  rw [← hna] at hr
  have Hr := hide hr
  have HA := hide hna
  clear hs hs' hN hr hna hz
  go_enter Try.func24, Try.ntmps24
  go_wp2_with fail
  refine (HR1.out _ (Below.refl _ _)).mono ?_
  rintro y w1 ⟨rfl, hb1⟩
  rw [Hr.out]
  have Hb1 := hide hb1
  clear hb1
  go_wp2
  go_loopw [6, 7] (fun v vi wr => ∃ (i : Nat) (v0 : Value), v0 = v ∧ vi = .int .i64 i ∧ i ≤ N ∧ OwE wr w.heap.size v0 (turn a 0 (L.take i)) ∧ Below w.heap.size w wr) (fun _ vi _ => N - (intOf vi).toNat)
  case atStart => exact ⟨0, _, rfl, rfl, Nat.zero_le _, by simp [turn]; exact OwE.nil _ _, Hb1.out⟩
  case round =>
    obtain ⟨i, v, rfl, rfl, hi, hown, hb⟩ := hrel
    have Hb := hide hb
    have Hown := hide hown
    clear hb hown
    by_cases hlt : i < N
    · obtain ⟨b, o, e, Ae, ce, hA0, hke, ⟨c0, c1, c2⟩, hv⟩ := Hs'.out.at Hb.out (k := i) (by have := HN.out; omega)
      subst hA0
      obtain ⟨p, d, ep, ed, hpd⟩ := Hea.out e (List.mem_of_getElem? hke)
      have hi6 := Hsm.out e (List.mem_of_getElem? hke)
      have hz6 := Hz.out
      have hil : e.ins.length ≤ 100000000 := by omega
      have Htn := hide (show turn a 0 (L.take (i + 1)) = turn a 0 (L.take i) ++ [⟨(p : Int) + moreOf (L.take i), e.ins.length, (a.drop p).take d⟩] by
        rw [take_more_one L i e hke, turn_snoc, ep, ed, Int.zero_add]; rfl)
      have Htl := hide (show (turn a 0 (L.take i)).length ≤ 1000 by rw [turn_len, List.length_take]; omega)
      obtain ⟨il, hil2⟩ : ∃ il, il = e.ins.length := ⟨_, rfl⟩
      rw [← hil2] at c2 Htn hil
      rw [ep] at c0
      rw [ed] at c1
      obtain ⟨q, hq⟩ : ∃ q, q = p + d := ⟨_, rfl⟩
      have hcut := vs_cut (Lw.Vs.below Hs.out Hb.out) (i := p) (j := q) (by omega) (by rw [← HA.out]; omega)
      have hrun := fun w => run_cut2 w A n c p q (by omega) (by omega)
      obtain ⟨A2, hA2⟩ : ∃ A2, (if c = p then A else A.map (·.add p)) = A2 := ⟨_, rfl⟩
      rw [hA2, show q - p = d from by omega] at hcut
      simp only [hA2, show q - p = d from by omega] at hrun
      obtain ⟨X, hX⟩ : ∃ X, X = (a.drop p).take d := ⟨_, rfl⟩
      have hXl : X.length = d := by rw [hX, List.length_take, List.length_drop, ← HA.out]; omega
      rw [← hX] at hcut Htn
      rw [← hXl] at hrun
      have HXl := hide hXl
      have Hcut := hide hcut
      have hw1 : IntKind.i64.wrap ((p : Int) + d) = (q : Int) := by rw [IntWalk.i64_in _ (by omega)]; omega
      have hd6 : d ≤ 1000 := by omega
      have hp6 : p ≤ 1000 := by omega
      clear hke ep ed hpd hi6 hv hil2 hq hA2 hX hXl hcut hz6
      go_wp2
      have HS := hide (show ∀ w', Below wr.heap.size wr w' → w'.cell? ⟨b, o + i * 3, none⟩ = some (.int .i64 (p : Int)) ∧ w'.cell? ⟨b, o + i * 3 + 1, none⟩ = some (.int .i64 (d : Int)) ∧ w'.cell? ⟨b, o + i * 3 + 2, none⟩ = some (.slice Ae il ce) from fun w' hb => ⟨cell_keep hb c0, cell_keep hb c1, cell_keep hb c2⟩)
      refine Rd.wp_region_tree (fun w' => w'.cell? ⟨b, o + i * 3, none⟩ = some (.int .i64 (p : Int)) ∧ w'.cell? ⟨b, o + i * 3 + 1, none⟩ = some (.int .i64 (d : Int)) ∧ w'.cell? ⟨b, o + i * 3 + 2, none⟩ = some (.slice Ae il ce)) (.take 0 (.take 1 (.take 2 (.take 3 (.take 4 (.take 5 (.take 6 (.take 7 (.take 8 (.take 9 (.take 10 (.take 12 (.take 13 (.take 14 (.take 15 (.take 16 (.take 17 (.take 18 (.take 19 (.take 20 (.take 21 (.take 22 (.take 23 (.take 24 (.take 25 (.take 26 (.take 27 (.take 28 (.take 29 (.fork 11 (.fork 30 (.take 31 (.one 32 (.one 33 .leaf))) 32 (.one 30 (.take 31 (.one 33 .leaf)))) 32 (.one 11 (.one 30 (.take 31 (.one 33 .leaf)))))))))))))))))))))))))))))))))) (by kernel_rfl) (by kernel_rfl) ?_
      iterate 29 (refine Rd.tree_quiet rfl (v := ?_) rfl (fun w' hS => ?_) ⟨c0, c1, c2⟩ ?_; rotate_left; (obtain ⟨s0, s1, s2⟩ := hS; go_simp; with_reducible rfl); simp only [Act.put, List.setIfInBounds_toArray])
      clear hw1 hrun c0 c1 c2
      refine Rd.tree_fork rfl (by rfl) rfl (by rfl) (fun K hK => ?_) (fun K hK => ?_)
      · go_simp
        have hx1 := ((Below.refl wr.heap.size wr).drew).alloc (Nat.le_refl _) (.cells #[] 9)
        refine hK _ _ (fun _ => HS.out _ hx1) ?_
        clear hK K
        refine Rd.tree_fork rfl (by rfl) rfl (by rfl) (fun K hK => ?_) (fun K hK => ?_)
        · refine wp_catT (.tmp 34) (.tmp 52) 22 rfl Try.underlying22 infoText wr.heap.size wr _ [] X _ A2 _ rfl rfl (OwT.lit wr.drew wr.heap.size 9 [] #[] rfl (Nat.le_refl _) (Nat.zero_le _)) (Lw.Vs.below Hcut.out hx1) (by have := HXl.out; simp; omega) hx1 hx1.size ?_
          intro vi x2 hvi hx2 hg2
          rw [List.nil_append] at hvi
          obtain ⟨Ai, ci, rfl, _⟩ := OwT.vs hvi
          have Hvi := hide hvi
          have Hx2 := hide hx2
          clear hvi hx2 hx1 hg2
          refine hK _ _ (fun _ => HS.out _ Hx2.out) ?_
          clear hK K
          refine Rd.tree_quiet rfl (v := ?_) rfl (fun w' hS => ?_) (HS.out _ Hx2.out) ?_
          rotate_left
          · go_simp
            with_reducible rfl
          simp only [Act.put, List.setIfInBounds_toArray]
          refine Rd.tree_one rfl (by rfl) (fun K hK => ?_)
          go_simp
          refine hK _ _ (fun _ => HS.out _ (Hx2.out.alloc Hx2.out.size (.cells #[.int .i64 0, .int .i64 0, .slice none 0 0] 29))) ?_
          clear hK K
          refine Rd.tree_one rfl (by rfl) (fun K hK => ?_)
          have b0 := (Row.fresh x2 29 #[.int .i64 0, .int .i64 0, .slice none 0 0]).cell 0
          go_simp
          have Hrow6 := hide (Row.fresh x2 tE #[.int .i64 (p : Int), .int .i64 (il : Int), .slice Ai X.length ci])
          have Hvi6 := hide (OwT.alloc Hvi.out (.cells #[.int .i64 (p : Int), .int .i64 (il : Int), .slice Ai X.length ci] tE))
          have Hb6 := hide (Hx2.out.alloc Hx2.out.size (.cells #[.int .i64 (p : Int), .int .i64 (il : Int), .slice Ai X.length ci] tE))
          have Hgb := hide (show wr.heap.size ≤ x2.heap.size from Hx2.out.size)
          obtain ⟨w6, hw6⟩ : ∃ w6, w6 = x2.alloc (.cells #[.int .i64 (p : Int), .int .i64 (il : Int), .slice Ai X.length ci] tE) := ⟨_, rfl⟩
          obtain ⟨g, hg⟩ : ∃ g, g = x2.heap.size := ⟨_, rfl⟩
          rw [← hw6] at Hrow6 Hvi6 Hb6 ⊢
          rw [← hg] at Hrow6 Hgb ⊢
          clear hw6 hg Hvi Hx2 b0
          refine hK _ _ (fun _ => HS.out _ Hb6.out) ?_
          clear hK K HS
          refine Rd.tree_leaf ?_
          have hown6 := Hown.out.move Hb6.out (Nat.le_refl _)
          have Hown6 := hide hown6
          have Hbw := hide (Hb.out.trans (Hb6.out.mono Hb.out.size))
          clear hown6
          go_wp2
          go_loopw [9] (fun vk w7 => ∃ k : Nat, k ≤ i ∧ vk = .int .i64 k ∧ Row w7 g tE [.int .i64 ((p : Int) + moreOf (L.take k)), .int .i64 (il : Int), .slice Ai X.length ci] ∧ OwT w7 wr.heap.size tS (.slice Ai X.length ci) X ∧ Below wr.heap.size wr w7) (fun vk _ => i - (intOf vk).toNat)
          case atStart => exact ⟨0, Nat.zero_le _, rfl, by rw [List.take_zero, show (p : Int) + moreOf [] = (p : Int) from Int.add_zero _]; exact Hrow6.out, Hvi6.out, Hb6.out⟩
          case round =>
            obtain ⟨k, hk, rfl, hrow, hvi, hb7⟩ := hrel
            have Hrow7 := hide hrow
            have Hvi7 := hide hvi
            have Hb7 := hide hb7
            have hbw7 := Hb.out.trans (hb7.mono Hb.out.size)
            have Hbw7 := hide hbw7
            clear hrow hvi hb7 hbw7
            have hmo := Hmo.out k
            have hzz := Hz.out
            by_cases hkn : k < i
            · obtain ⟨b', o', e', Ae', ce', hA1, hke', ⟨d0, d1, d2⟩, _⟩ := Hs'.out.at Hbw7.out (k := k) (by have := HN.out; omega)
              injection hA1 with hA1
              injection hA1 with hA2 hA3
              subst hA2 hA3
              obtain ⟨p', d', ep', ed', hpd'⟩ := Hea.out e' (List.mem_of_getElem? hke')
              have hi7 := Hsm.out e' (List.mem_of_getElem? hke')
              have Hnx := hide (show moreOf (L.take (k + 1)) = moreOf (L.take k) + ((e'.ins.length : Int) - d') by rw [take_more_one L k e' hke', more_snoc, ed'])
              obtain ⟨il', hil'⟩ : ∃ il', il' = e'.ins.length := ⟨_, rfl⟩
              rw [← hil'] at d2 Hnx hi7
              rw [ed'] at d1
              obtain ⟨q0, hq0⟩ : ∃ q0 : Int, q0 = (p : Int) + moreOf (L.take k) := ⟨_, rfl⟩
              rw [← hq0] at Hrow7
              have Hq0 := hide hq0
              have hw2 : IntKind.i64.wrap (q0 + il') = q0 + il' := IntWalk.i64_in _ (by omega)
              have hw3 : IntKind.i64.wrap (q0 + il' - d') = q0 + il' - d' := IntWalk.i64_in _ (by omega)
              have e0 := Hrow7.out.cell 0
              have f0 := Hrow7.out.free 0
              simp only [List.getElem?_cons_zero] at e0
              have hkN : k < N := by omega
              clear hke' ep' ed' hpd' hi7 hil' hq0 hmo hzz d0
              go_wp2
              refine Rg.wp_region_ord (fun w' => w'.cell? ⟨g, 0, none⟩ = some (.int .i64 q0) ∧ w'.cell? ⟨b, o + k * 3 + 1, none⟩ = some (.int .i64 (d' : Int)) ∧ w'.cell? ⟨b, o + k * 3 + 2, none⟩ = some (.slice Ae' il' ce')) [(0, true), (1, true), (2, true), (3, true), (4, true), (5, true), (6, true), (7, true), (8, true), (9, true), (10, true), (11, true), (12, true), (13, true), (14, true), (15, true), (16, false)] (by kernel_rfl) (by kernel_rfl) ?_
              simp only [Rg.pick, List.map_cons, List.map_nil, List.getD_cons_zero, List.getD_cons_succ]
              iterate 16 (refine Rg.ord_quiet (v := ?_) rfl (fun w' hS => ?_) ⟨e0, d1, d2⟩ ?_; rotate_left; (obtain ⟨s0, s1, s2⟩ := hS; go_simp; with_reducible rfl); simp only [Act.put, List.setIfInBounds_toArray, List.set_cons_succ, List.set_cons_zero])
              refine Rg.ord_loud rfl (fun K hK => ?_)
              go_simp
              refine hK _ _ (fun hf => absurd (show Rg.sink _ 16 = true from by kernel_rfl) (by rw [hf]; decide)) ?_
              clear hK K hw2 hw3 e0 f0 d1 d2
              refine Rg.ord_nil ?_
              have Hr8 := hide (show Row (wr.setCell ⟨g, 0, none⟩ (.int .i64 (q0 + il' - d'))).drew g tE [.int .i64 ((p : Int) + moreOf (L.take (k + 1))), .int .i64 (il : Int), .slice Ai X.length ci] by
                have := Hrow7.out.put 0 (.int .i64 (q0 + il' - d'))
                rw [show (p : Int) + moreOf (L.take (k + 1)) = q0 + il' - d' by rw [Hnx.out, Hq0.out]; omega]
                exact this.drew)
              go_wp2
              exact ⟨⟨k + 1, by omega, by go_num, Hr8.out, (OwT.put Hvi7.out (own_ne Hrow7.out Hvi7.out) 0 _).drew, (below_put Hb7.out (g := g) (i := 0) Hgb.out _).drew⟩, by simp [intOf]; omega⟩
            · obtain rfl : k = i := by omega
              have e0 := Hrow7.out.cell 0
              have e1 := Hrow7.out.cell 1
              have e2 := Hrow7.out.cell 2
              simp only [List.getElem?_cons_zero, List.getElem?_cons_succ] at e0 e1 e2
              have Hown7 := hide (Hown.out.move Hb7.out (Nat.le_refl _))
              have Hvi8 := hide (OwT.base Hvi7.out Hb.out.size)
              clear hmo hzz
              obtain ⟨q0, hq0⟩ : ∃ q0 : Int, q0 = (p : Int) + moreOf (L.take k) := ⟨_, rfl⟩
              rw [← hq0] at e0 Htn
              clear hq0
              go_wp2_with (refine wpList_pushE rfl (.tmp 76) (.tmp 78) rfl w.heap.size w _ _ (turn a 0 (L.take k)) ⟨q0, il, X⟩ _ rfl rfl rfl Hown7.out Hvi8.out (by have := Htl.out; omega) Hbw7.out Hbw7.out.size ?_; intro v9 w9 hown9 hb9 _; have Hown9 := hide hown9; have Hb9 := hide hb9; clear hown9 hb9)
              exact ⟨⟨k + 1, _, rfl, by go_num, by omega, by rw [Htn.out]; exact Hown9.out, Hb9.out⟩, by simp [intOf]; omega⟩
        · go_simp
          have hy1 := hx1.alloc hx1.size (.cells #[.int .i64 0, .int .i64 0, .slice none 0 0] 29)
          have hrowb := Row.fresh (wr.drew.alloc (.cells #[] 9)) 29 #[.int .i64 0, .int .i64 0, .slice none 0 0]
          have hgb : wr.heap.size ≤ (wr.drew.alloc (.cells #[] 9)).heap.size := hx1.size
          have hszl : (wr.drew.alloc (.cells #[] 9)).heap.size = wr.heap.size + 1 := World.size_alloc _ _
          have hlitne : some ((wr.drew.alloc (.cells #[] 9)).heap.size) ≠ (Value.slice (some ⟨wr.heap.size, 0, none⟩) 0 0).ownBlock := by
            intro h
            rw [hszl] at h
            injection h with h
            exact absurd h (Nat.succ_ne_self _)
          refine hK _ _ (fun _ => HS.out _ hy1) ?_
          clear hK K
          refine Rd.tree_one rfl (by rfl) (fun K hK => ?_)
          refine wp_catT (.tmp 34) (.tmp 52) 22 rfl Try.underlying22 infoText wr.heap.size wr _ [] X _ A2 _ rfl rfl (OwT.alloc (OwT.lit wr.drew wr.heap.size 9 [] #[] rfl (Nat.le_refl _) (Nat.zero_le _)) (.cells #[.int .i64 0, .int .i64 0, .slice none 0 0] 29)) (Lw.Vs.below Hcut.out hy1) (by have := HXl.out; simp; omega) hy1 hy1.size ?_
          intro vi x2 hvi hx2 hg2
          rw [List.nil_append] at hvi
          obtain ⟨Ai, ci, rfl, _⟩ := OwT.vs hvi
          have Hvi := hide hvi
          have Hx2 := hide hx2
          have Hbx := hide (hrowb.grown hg2 hlitne)
          have Hgb := hide hgb
          obtain ⟨g, hg⟩ : ∃ g, g = (wr.drew.alloc (.cells #[] 9)).heap.size := ⟨_, rfl⟩
          rw [← hg] at Hbx Hgb
          have Hgn := hide (own_ne Hbx.out hvi)
          have hgv : wr.heap.size + 1 = g := by rw [hg, hszl]
          clear hvi hx2 hx1 hy1 hg2 hrowb hgb hlitne hg hszl
          refine hK _ _ (fun _ => HS.out _ Hx2.out) ?_
          clear hK K
          refine Rd.tree_quiet rfl (v := ?_) rfl (fun w' hS => ?_) (HS.out _ Hx2.out) ?_
          rotate_left
          · go_simp
            with_reducible rfl
          simp only [Act.put, List.setIfInBounds_toArray]
          try rw [hgv]
          clear hgv
          refine Rd.tree_one rfl (by rfl) (fun K hK => ?_)
          have b0 := Hbx.out.cell 0
          have b1 := Hbx.out.cell 1
          have b2 := Hbx.out.cell 2
          have f0 := Hbx.out.free 0
          have f1 := Hbx.out.free 1
          have f2 := Hbx.out.free 2
          simp only [List.getElem?_cons_zero, List.getElem?_cons_succ] at b0 b1 b2
          go_simp
          have Hrow6 := hide (((Hbx.out.put 0 (.int .i64 (p : Int))).put 1 (.int .i64 (il : Int))).put 2 (.slice Ai X.length ci))
          have Hvi6 := hide (OwT.put (OwT.put (OwT.put Hvi.out Hgn.out 0 (.int .i64 (p : Int))) Hgn.out 1 (.int .i64 (il : Int))) Hgn.out 2 (.slice Ai X.length ci))
          have Hb6 := hide (below_put (below_put (below_put Hx2.out (g := g) (i := 0) Hgb.out (.int .i64 (p : Int))) (g := g) (i := 1) Hgb.out (.int .i64 (il : Int))) (g := g) (i := 2) Hgb.out (.slice Ai X.length ci))
          obtain ⟨w6, hw6⟩ : ∃ w6, w6 = ((x2.setCell ⟨g, 0, none⟩ (.int .i64 (p : Int))).setCell ⟨g, 1, none⟩ (.int .i64 (il : Int))).setCell ⟨g, 2, none⟩ (.slice Ai X.length ci) := ⟨_, rfl⟩
          rw [← hw6] at Hrow6 Hvi6 Hb6 ⊢
          clear hw6 Hvi Hx2 b0 b1 b2 f0 f1 f2 Hbx
          refine hK _ _ (fun _ => HS.out _ Hb6.out) ?_
          clear hK K HS
          refine Rd.tree_leaf ?_
          have hown6 := Hown.out.move Hb6.out (Nat.le_refl _)
          have Hown6 := hide hown6
          have Hbw := hide (Hb.out.trans (Hb6.out.mono Hb.out.size))
          clear hown6
          go_wp2
          go_loopw [9] (fun vk w7 => ∃ k : Nat, k ≤ i ∧ vk = .int .i64 k ∧ Row w7 g tE [.int .i64 ((p : Int) + moreOf (L.take k)), .int .i64 (il : Int), .slice Ai X.length ci] ∧ OwT w7 wr.heap.size tS (.slice Ai X.length ci) X ∧ Below wr.heap.size wr w7) (fun vk _ => i - (intOf vk).toNat)
          case atStart => exact ⟨0, Nat.zero_le _, rfl, by rw [List.take_zero, show (p : Int) + moreOf [] = (p : Int) from Int.add_zero _]; exact Hrow6.out, Hvi6.out, Hb6.out⟩
          case round =>
            obtain ⟨k, hk, rfl, hrow, hvi, hb7⟩ := hrel
            have Hrow7 := hide hrow
            have Hvi7 := hide hvi
            have Hb7 := hide hb7
            have hbw7 := Hb.out.trans (hb7.mono Hb.out.size)
            have Hbw7 := hide hbw7
            clear hrow hvi hb7 hbw7
            have hmo := Hmo.out k
            have hzz := Hz.out
            by_cases hkn : k < i
            · obtain ⟨b', o', e', Ae', ce', hA1, hke', ⟨d0, d1, d2⟩, _⟩ := Hs'.out.at Hbw7.out (k := k) (by have := HN.out; omega)
              injection hA1 with hA1
              injection hA1 with hA2 hA3
              subst hA2 hA3
              obtain ⟨p', d', ep', ed', hpd'⟩ := Hea.out e' (List.mem_of_getElem? hke')
              have hi7 := Hsm.out e' (List.mem_of_getElem? hke')
              have Hnx := hide (show moreOf (L.take (k + 1)) = moreOf (L.take k) + ((e'.ins.length : Int) - d') by rw [take_more_one L k e' hke', more_snoc, ed'])
              obtain ⟨il', hil'⟩ : ∃ il', il' = e'.ins.length := ⟨_, rfl⟩
              rw [← hil'] at d2 Hnx hi7
              rw [ed'] at d1
              obtain ⟨q0, hq0⟩ : ∃ q0 : Int, q0 = (p : Int) + moreOf (L.take k) := ⟨_, rfl⟩
              rw [← hq0] at Hrow7
              have Hq0 := hide hq0
              have hw2 : IntKind.i64.wrap (q0 + il') = q0 + il' := IntWalk.i64_in _ (by omega)
              have hw3 : IntKind.i64.wrap (q0 + il' - d') = q0 + il' - d' := IntWalk.i64_in _ (by omega)
              have e0 := Hrow7.out.cell 0
              have f0 := Hrow7.out.free 0
              simp only [List.getElem?_cons_zero] at e0
              have hkN : k < N := by omega
              clear hke' ep' ed' hpd' hi7 hil' hq0 hmo hzz d0
              go_wp2
              refine Rg.wp_region_ord (fun w' => w'.cell? ⟨g, 0, none⟩ = some (.int .i64 q0) ∧ w'.cell? ⟨b, o + k * 3 + 1, none⟩ = some (.int .i64 (d' : Int)) ∧ w'.cell? ⟨b, o + k * 3 + 2, none⟩ = some (.slice Ae' il' ce')) [(0, true), (1, true), (2, true), (3, true), (4, true), (5, true), (6, true), (7, true), (8, true), (9, true), (10, true), (11, true), (12, true), (13, true), (14, true), (15, true), (16, false)] (by kernel_rfl) (by kernel_rfl) ?_
              simp only [Rg.pick, List.map_cons, List.map_nil, List.getD_cons_zero, List.getD_cons_succ]
              iterate 16 (refine Rg.ord_quiet (v := ?_) rfl (fun w' hS => ?_) ⟨e0, d1, d2⟩ ?_; rotate_left; (obtain ⟨s0, s1, s2⟩ := hS; go_simp; with_reducible rfl); simp only [Act.put, List.setIfInBounds_toArray, List.set_cons_succ, List.set_cons_zero])
              refine Rg.ord_loud rfl (fun K hK => ?_)
              go_simp
              refine hK _ _ (fun hf => absurd (show Rg.sink _ 16 = true from by kernel_rfl) (by rw [hf]; decide)) ?_
              clear hK K hw2 hw3 e0 f0 d1 d2
              refine Rg.ord_nil ?_
              have Hr8 := hide (show Row (wr.setCell ⟨g, 0, none⟩ (.int .i64 (q0 + il' - d'))).drew g tE [.int .i64 ((p : Int) + moreOf (L.take (k + 1))), .int .i64 (il : Int), .slice Ai X.length ci] by
                have := Hrow7.out.put 0 (.int .i64 (q0 + il' - d'))
                rw [show (p : Int) + moreOf (L.take (k + 1)) = q0 + il' - d' by rw [Hnx.out, Hq0.out]; omega]
                exact this.drew)
              go_wp2
              exact ⟨⟨k + 1, by omega, by go_num, Hr8.out, (OwT.put Hvi7.out (own_ne Hrow7.out Hvi7.out) 0 _).drew, (below_put Hb7.out (g := g) (i := 0) Hgb.out _).drew⟩, by simp [intOf]; omega⟩
            · obtain rfl : k = i := by omega
              have e0 := Hrow7.out.cell 0
              have e1 := Hrow7.out.cell 1
              have e2 := Hrow7.out.cell 2
              simp only [List.getElem?_cons_zero, List.getElem?_cons_succ] at e0 e1 e2
              have Hown7 := hide (Hown.out.move Hb7.out (Nat.le_refl _))
              have Hvi8 := hide (OwT.base Hvi7.out Hb.out.size)
              clear hmo hzz
              obtain ⟨q0, hq0⟩ : ∃ q0 : Int, q0 = (p : Int) + moreOf (L.take k) := ⟨_, rfl⟩
              rw [← hq0] at e0 Htn
              clear hq0
              go_wp2_with (refine wpList_pushE rfl (.tmp 76) (.tmp 78) rfl w.heap.size w _ _ (turn a 0 (L.take k)) ⟨q0, il, X⟩ _ rfl rfl rfl Hown7.out Hvi8.out (by have := Htl.out; omega) Hbw7.out Hbw7.out.size ?_; intro v9 w9 hown9 hb9 _; have Hown9 := hide hown9; have Hb9 := hide hb9; clear hown9 hb9)
              exact ⟨⟨k + 1, _, rfl, by go_num, by omega, by rw [Htn.out]; exact Hown9.out, Hb9.out⟩, by simp [intOf]; omega⟩
      · go_simp
        have hx1 := ((Below.refl wr.heap.size wr).drew).alloc (Nat.le_refl _) (.cells #[.int .i64 0, .int .i64 0, .slice none 0 0] 29)
        refine hK _ _ (fun _ => HS.out _ hx1) ?_
        clear hK K
        refine Rd.tree_one rfl (by rfl) (fun K hK => ?_)
        go_simp
        have hrowb := (Row.fresh wr.drew 29 #[.int .i64 0, .int .i64 0, .slice none 0 0]).alloc (.cells #[] 9)
        have hy1 := hx1.alloc hx1.size (.cells #[] 9)
        have hlitne : some (wr.drew.heap.size) ≠ (Value.slice (some ⟨wr.heap.size + 1, 0, none⟩) 0 0).ownBlock := by
          intro h
          injection h with h
          exact absurd h.symm (Nat.succ_ne_self _)
        have hlit : OwT ((wr.drew.alloc (.cells #[.int .i64 0, .int .i64 0, .slice none 0 0] 29)).alloc (.cells #[] 9)) wr.heap.size 9 (.slice (some ⟨wr.heap.size + 1, 0, none⟩) 0 0) [] := by
          have := OwT.lit (wr.drew.alloc (.cells #[.int .i64 0, .int .i64 0, .slice none 0 0] 29)) wr.heap.size 9 [] #[] rfl hx1.size (Nat.zero_le _)
          rw [World.size_alloc] at this
          exact this
        refine hK _ _ (fun _ => HS.out _ hy1) ?_
        clear hK K
        refine Rd.tree_one rfl (by rfl) (fun K hK => ?_)
        refine wp_catT (.tmp 34) (.tmp 52) 22 rfl Try.underlying22 infoText wr.heap.size wr _ [] X _ A2 _ rfl rfl hlit (Lw.Vs.below Hcut.out hy1) (by have := HXl.out; simp; omega) hy1 hy1.size ?_
        intro vi x2 hvi hx2 hg2
        rw [List.nil_append] at hvi
        obtain ⟨Ai, ci, rfl, _⟩ := OwT.vs hvi
        have Hvi := hide hvi
        have Hx2 := hide hx2
        have Hbx := hide (hrowb.grown hg2 hlitne)
        obtain ⟨g, hg⟩ : ∃ g, g = wr.heap.size := ⟨_, rfl⟩
        have hgd : wr.drew.heap.size = g := hg.symm
        rw [hgd] at Hbx
        have Hgb := hide (show wr.heap.size ≤ g by omega)
        have Hgn := hide (own_ne Hbx.out hvi)
        have hgv : wr.heap.size = g := hg.symm
        clear hvi hx2 hx1 hy1 hg2 hrowb hlitne hg hgd hlit
        refine hK _ _ (fun _ => HS.out _ Hx2.out) ?_
        clear hK K
        refine Rd.tree_quiet rfl (v := ?_) rfl (fun w' hS => ?_) (HS.out _ Hx2.out) ?_
        rotate_left
        · go_simp
          with_reducible rfl
        simp only [Act.put, List.setIfInBounds_toArray]
        try rw [hgv]
        refine Rd.tree_one rfl (by rfl) (fun K hK => ?_)
        have b0 := Hbx.out.cell 0
        have b1 := Hbx.out.cell 1
        have b2 := Hbx.out.cell 2
        have f0 := Hbx.out.free 0
        have f1 := Hbx.out.free 1
        have f2 := Hbx.out.free 2
        simp only [List.getElem?_cons_zero, List.getElem?_cons_succ] at b0 b1 b2
        go_simp
        have Hrow6 := hide (((Hbx.out.put 0 (.int .i64 (p : Int))).put 1 (.int .i64 (il : Int))).put 2 (.slice Ai X.length ci))
        have Hvi6 := hide (OwT.put (OwT.put (OwT.put Hvi.out Hgn.out 0 (.int .i64 (p : Int))) Hgn.out 1 (.int .i64 (il : Int))) Hgn.out 2 (.slice Ai X.length ci))
        have Hb6 := hide (below_put (below_put (below_put Hx2.out (g := g) (i := 0) Hgb.out (.int .i64 (p : Int))) (g := g) (i := 1) Hgb.out (.int .i64 (il : Int))) (g := g) (i := 2) Hgb.out (.slice Ai X.length ci))
        obtain ⟨w6, hw6⟩ : ∃ w6, w6 = ((x2.setCell ⟨g, 0, none⟩ (.int .i64 (p : Int))).setCell ⟨g, 1, none⟩ (.int .i64 (il : Int))).setCell ⟨g, 2, none⟩ (.slice Ai X.length ci) := ⟨_, rfl⟩
        rw [← hw6] at Hrow6 Hvi6 Hb6 ⊢
        clear hw6 Hvi Hx2 b0 b1 b2 f0 f1 f2 Hbx
        refine hK _ _ (fun _ => HS.out _ Hb6.out) ?_
        clear hK K HS
        refine Rd.tree_leaf ?_
        have hown6 := Hown.out.move Hb6.out (Nat.le_refl _)
        have Hown6 := hide hown6
        have Hbw := hide (Hb.out.trans (Hb6.out.mono Hb.out.size))
        clear hown6
        go_wp2
        go_loopw [9] (fun vk w7 => ∃ k : Nat, k ≤ i ∧ vk = .int .i64 k ∧ Row w7 g tE [.int .i64 ((p : Int) + moreOf (L.take k)), .int .i64 (il : Int), .slice Ai X.length ci] ∧ OwT w7 wr.heap.size tS (.slice Ai X.length ci) X ∧ Below wr.heap.size wr w7) (fun vk _ => i - (intOf vk).toNat)
        case atStart => exact ⟨0, Nat.zero_le _, rfl, by rw [List.take_zero, show (p : Int) + moreOf [] = (p : Int) from Int.add_zero _]; exact Hrow6.out, Hvi6.out, Hb6.out⟩
        case round =>
          obtain ⟨k, hk, rfl, hrow, hvi, hb7⟩ := hrel
          have Hrow7 := hide hrow
          have Hvi7 := hide hvi
          have Hb7 := hide hb7
          have hbw7 := Hb.out.trans (hb7.mono Hb.out.size)
          have Hbw7 := hide hbw7
          clear hrow hvi hb7 hbw7
          have hmo := Hmo.out k
          have hzz := Hz.out
          by_cases hkn : k < i
          · obtain ⟨b', o', e', Ae', ce', hA1, hke', ⟨d0, d1, d2⟩, _⟩ := Hs'.out.at Hbw7.out (k := k) (by have := HN.out; omega)
            injection hA1 with hA1
            injection hA1 with hA2 hA3
            subst hA2 hA3
            obtain ⟨p', d', ep', ed', hpd'⟩ := Hea.out e' (List.mem_of_getElem? hke')
            have hi7 := Hsm.out e' (List.mem_of_getElem? hke')
            have Hnx := hide (show moreOf (L.take (k + 1)) = moreOf (L.take k) + ((e'.ins.length : Int) - d') by rw [take_more_one L k e' hke', more_snoc, ed'])
            obtain ⟨il', hil'⟩ : ∃ il', il' = e'.ins.length := ⟨_, rfl⟩
            rw [← hil'] at d2 Hnx hi7
            rw [ed'] at d1
            obtain ⟨q0, hq0⟩ : ∃ q0 : Int, q0 = (p : Int) + moreOf (L.take k) := ⟨_, rfl⟩
            rw [← hq0] at Hrow7
            have Hq0 := hide hq0
            have hw2 : IntKind.i64.wrap (q0 + il') = q0 + il' := IntWalk.i64_in _ (by omega)
            have hw3 : IntKind.i64.wrap (q0 + il' - d') = q0 + il' - d' := IntWalk.i64_in _ (by omega)
            have e0 := Hrow7.out.cell 0
            have f0 := Hrow7.out.free 0
            simp only [List.getElem?_cons_zero] at e0
            have hkN : k < N := by omega
            clear hke' ep' ed' hpd' hi7 hil' hq0 hmo hzz d0
            go_wp2
            refine Rg.wp_region_ord (fun w' => w'.cell? ⟨g, 0, none⟩ = some (.int .i64 q0) ∧ w'.cell? ⟨b, o + k * 3 + 1, none⟩ = some (.int .i64 (d' : Int)) ∧ w'.cell? ⟨b, o + k * 3 + 2, none⟩ = some (.slice Ae' il' ce')) [(0, true), (1, true), (2, true), (3, true), (4, true), (5, true), (6, true), (7, true), (8, true), (9, true), (10, true), (11, true), (12, true), (13, true), (14, true), (15, true), (16, false)] (by kernel_rfl) (by kernel_rfl) ?_
            simp only [Rg.pick, List.map_cons, List.map_nil, List.getD_cons_zero, List.getD_cons_succ]
            iterate 16 (refine Rg.ord_quiet (v := ?_) rfl (fun w' hS => ?_) ⟨e0, d1, d2⟩ ?_; rotate_left; (obtain ⟨s0, s1, s2⟩ := hS; go_simp; with_reducible rfl); simp only [Act.put, List.setIfInBounds_toArray, List.set_cons_succ, List.set_cons_zero])
            refine Rg.ord_loud rfl (fun K hK => ?_)
            go_simp
            refine hK _ _ (fun hf => absurd (show Rg.sink _ 16 = true from by kernel_rfl) (by rw [hf]; decide)) ?_
            clear hK K hw2 hw3 e0 f0 d1 d2
            refine Rg.ord_nil ?_
            have Hr8 := hide (show Row (wr.setCell ⟨g, 0, none⟩ (.int .i64 (q0 + il' - d'))).drew g tE [.int .i64 ((p : Int) + moreOf (L.take (k + 1))), .int .i64 (il : Int), .slice Ai X.length ci] by
              have := Hrow7.out.put 0 (.int .i64 (q0 + il' - d'))
              rw [show (p : Int) + moreOf (L.take (k + 1)) = q0 + il' - d' by rw [Hnx.out, Hq0.out]; omega]
              exact this.drew)
            go_wp2
            exact ⟨⟨k + 1, by omega, by go_num, Hr8.out, (OwT.put Hvi7.out (own_ne Hrow7.out Hvi7.out) 0 _).drew, (below_put Hb7.out (g := g) (i := 0) Hgb.out _).drew⟩, by simp [intOf]; omega⟩
          · obtain rfl : k = i := by omega
            have e0 := Hrow7.out.cell 0
            have e1 := Hrow7.out.cell 1
            have e2 := Hrow7.out.cell 2
            simp only [List.getElem?_cons_zero, List.getElem?_cons_succ] at e0 e1 e2
            have Hown7 := hide (Hown.out.move Hb7.out (Nat.le_refl _))
            have Hvi8 := hide (OwT.base Hvi7.out Hb.out.size)
            clear hmo hzz
            obtain ⟨q0, hq0⟩ : ∃ q0 : Int, q0 = (p : Int) + moreOf (L.take k) := ⟨_, rfl⟩
            rw [← hq0] at e0 Htn
            clear hq0
            go_wp2_with (refine wpList_pushE rfl (.tmp 76) (.tmp 78) rfl w.heap.size w _ _ (turn a 0 (L.take k)) ⟨q0, il, X⟩ _ rfl rfl rfl Hown7.out Hvi8.out (by have := Htl.out; omega) Hbw7.out Hbw7.out.size ?_; intro v9 w9 hown9 hb9 _; have Hown9 := hide hown9; have Hb9 := hide hb9; clear hown9 hb9)
            exact ⟨⟨k + 1, _, rfl, by go_num, by omega, by rw [Htn.out]; exact Hown9.out, Hb9.out⟩, by simp [intOf]; omega⟩
    · obtain rfl : N = i := by omega
      have Hfin := hide (show L.take N = L by rw [HN.out, List.take_length])
      rw [Hfin.out] at Hown
      go_wp2
      go_ret
      exact ⟨_, rfl, Hown.out, Hb.out⟩
end Go.Proofs.Ytcilenppjpnaoaa.Df
