/-
  The reference's Split.
-/
import Derived.Test.YtghnieddokhagaaQTA
import Derived.Test.YtghnieddokhagaaQLC
import Derived.Test.YtghnieddokhagaaQReg
import Derived.IntWalk
namespace Go.Proofs.Ytghnieddokhagaa.Li
open Go Go.RowKit Kt Lw

theorem texts_last (q : List (List UInt8)) (x : List UInt8) : (texts (q ++ [x]))[q.length]? = some (.string ⟨x.toArray⟩) := by simp [texts]
theorem texts_set (q : List (List UInt8)) (x y : List UInt8) : (texts (q ++ [x])).set q.length (.string ⟨y.toArray⟩) = texts (q ++ [y]) := by
  simp [texts]
theorem cut_one (s : List UInt8) (k : Nat) (h : k < s.length) : (ByteArray.mk s.toArray).extract k (k + 1) = ⟨[s.getD k 0].toArray⟩ := by
  have e : s.getD k 0 = s[k] := by simp [List.getElem?_eq_getElem h]
  have e2 : (s.drop k).take 1 = [s[k]] := by rw [List.drop_eq_getElem_cons h]; rfl
  apply ByteArray.ext
  rw [e, ByteArray.data_extract]
  apply Array.ext'
  simp [e2]
theorem closed_false_of (b : UInt8) (p : List UInt8) : (!closed (p ++ [b])) = ((b.toNat : Int) != 10) := by
  rw [closed_snoc, bne, ten_of]

set_option maxHeartbeats 1000000 in
set_option maxRecDepth 100000 in
theorem refSplit_any (s : List UInt8) (w : World) (hl : s.length ≤ 1000000) :
    Calls Try.prog 36 #[.string ⟨s.toArray⟩] w fun e w' => ∃ v, e = .returned v ∧ OwT w' w.heap.size 9 v (lns s) ∧ Below w.heap.size w w' := by
  go_enter Try.func36, Try.ntmps36
  go_wp2
  go_loopw [3, 4, 5] (fun v o i wr => ∃ (k : Nat) (v0 : Value), v0 = v ∧ k ≤ s.length ∧ i = .int .i64 k ∧ o = .bool (!closed (s.take k)) ∧ OwT wr w.heap.size 9 v0 (lns (s.take k)) ∧ Below w.heap.size w wr) (fun _ _ i _ => s.length - (intOf i).toNat)
  case atStart => exact ⟨0, _, rfl, Nat.zero_le _, rfl, rfl, OwT.nil _ _ _, Below.refl _ _⟩
  case round =>
    obtain ⟨k, v, rfl, hk, rfl, rfl, hown, hb⟩ := hrel
    by_cases hlt : k < s.length
    · have Hts := hide (show s.take (k + 1) = s.take k ++ [s.getD k 0] by
        rw [List.take_succ_eq_append_getElem hlt]; simp [List.getElem?_eq_getElem hlt])
      have Hle := hide (lns_len_le (s.take k))
      have Hlk := hide (show (s.take k).length ≤ k from List.length_take_le _ _)
      have eg := get_at s k (by rw [size_of]; exact hlt)
      have ec := cut_one s k hlt
      generalize s.getD k 0 = z at *
      generalize s.take k = p at *
      have Hb := hide hb
      have Hown := hide hown
      clear hown hb
      cases hcl : closed p with
      | true =>
        have Hl1 := hide (show lns (p ++ [z]) = lns p ++ [[z]] by
          rw [lns_append _ _ hcl]
          congr 1
          by_cases hz : z = 10 <;> simp [lns, hz])
        have HQ := hide (Nat.le_refl (lns p).length)
        have HX := hide (show ¬ 9223372036854775807 < ([] : List UInt8).length + 1 by simp)
        go_wp2_with (refine wpList_catT rfl (.tmp 14) (.tmp 15) 25 rfl Try.underlying25 infoText w.heap.size w v (lns p) [[]] _ _ 1 rfl rfl (Hown.out.alloc _) (Vs.one wr 9 []) (by have := Hle.out; have := Hlk.out; simp; omega) (Hb.out.alloc Hb.out.size _) (by have := Hb.out.size; simp; omega) ?_; intro v1 w1 hown1 hb1 _)
        obtain ⟨g, cap, rfl, hBg, hglt⟩ := World.ownsRow.form hown1 (by simp)
        have hqn : ((lns p) ++ [([] : List UInt8)]).length = (lns p).length + 1 := by simp
        have hq6 : (lns p).length ≤ 1000000 := by have := Hle.out; have := Hlk.out; have := HQ.out; omega
        have c1 : w1.cell? ⟨g, (lns p).length, none⟩ = some (.string ⟨([] : List UInt8).toArray⟩) := by
          have := World.ownsRow.cellAt hown1 (lns p).length (by simp)
          rw [this]; exact texts_last (lns p) ([] : List UInt8)
        have f1 := World.ownsRow.frozenAt hown1 (lns p).length
        have hst := (World.ownsRow.stored hown1 (lns p).length (.string ⟨(([] : List UInt8) ++ [z]).toArray⟩)).1
        rw [texts_set, hqn] at hst
        have hst2 : OwT (w1.setCell ⟨g, (lns p).length, none⟩ (.string ⟨(([] : List UInt8) ++ [z]).toArray⟩)) w.heap.size 9 (.slice (some ⟨g, 0, none⟩) ((lns p).length + 1) cap) ((lns p) ++ [([] : List UInt8) ++ [z]]) := by unfold OwT; rw [show ((lns p) ++ [([] : List UInt8) ++ [z]]).length = (lns p).length + 1 from by simp]; exact hst
        have hst' : OwT (w1.setCell ⟨g, (lns p).length, none⟩ (.string ⟨(([] : List UInt8) ++ [z]).toArray⟩)) w.heap.size 9 (.slice (some ⟨g, 0, none⟩) ((lns p).length + 1) cap) (lns (p ++ [z])) := by rw [Hl1.out]; exact hst2
        have Hb2 := hide (below_put hb1 (g := g) (i := (lns p).length) hBg (.string ⟨(([] : List UInt8) ++ [z]).toArray⟩))
        have Hst := hide hst'
        have ea := app_txt ([] : List UInt8) [z]
        have eb := closed_false_of z p
        have Eb := hide eb
        clear hown1 hb1 hst hst' hst2 hBg eb
        simp only [hqn]
        clear hqn
        obtain ⟨n, hnq⟩ : ∃ n, n = (lns p).length := ⟨_, rfl⟩
        rw [← hnq] at hq6 c1 f1 Hst Hb2 ⊢
        clear hnq hglt
        have hx6 := HX.out
        have hn1 : (n : Int) < (n : Int) + 1 := by omega
        have hk1 : (k : Int) + 1 ≤ (s.length : Int) := by omega
        have hk2 : (k : Int) ≤ (k : Int) + 1 := by omega
        have hk3 : 0 ≤ (k : Int) + 1 := by omega
        have hk4 : ((k : Int) + 1).toNat = k + 1 := by omega
        have hw1 : IntKind.i64.wrap (n : Int) = (n : Int) := IntWalk.i64_in _ (by omega)
        have hw2 : IntKind.i64.wrap ((k : Int) + 1) = (k : Int) + 1 := IntWalk.i64_in _ (by omega)
        refine Rg.wp_region_ord (fun w' => w'.cell? ⟨g, n, none⟩ = some (.string ⟨([] : List UInt8).toArray⟩)) [(0, true), (1, true), (2, true), (3, true), (4, true), (5, true), (6, true), (7, true), (8, true), (9, true), (10, true), (11, true), (12, true), (13, true), (14, true), (15, true), (16, true), (17, false)] (by kernel_rfl) (by kernel_rfl) ?_
        simp only [Rg.pick, List.map_cons, List.map_nil, List.getD_cons_zero, List.getD_cons_succ]
        iterate 17 (refine Rg.ord_quiet (v := ?_) rfl (fun w' hS => ?_) c1 ?_; rotate_left; (go_simp; with_reducible rfl); simp only [Act.put, List.setIfInBounds_toArray, List.set_cons_succ, List.set_cons_zero])
        refine Rg.ord_loud rfl (fun K hK => ?_)
        go_simp
        refine hK _ _ (fun hf => absurd (show Rg.sink _ 17 = true from by kernel_rfl) (by rw [hf]; decide)) ?_
        clear hK K c1 f1 hw1 hw2 hk4 hk3 hk2 hk1 hn1
        refine Rg.ord_nil ?_
        go_wp2
        exact ⟨⟨k + 1, _, rfl, by omega, by go_num, by rw [Hts.out, Eb.out], by rw [Hts.out]; exact Hst.out.drew, Hb2.out.drew⟩, by simp [intOf]; omega⟩
      | false =>
        obtain ⟨q, x, e1, e2⟩ := lns_snoc_open p z hcl
        have Hl1 := hide e2
        have HQ := hide (show q.length ≤ (lns p).length by rw [e1]; simp)
        have HX := hide (show ¬ 9223372036854775807 < x.length + 1 by
          have := lns_mem_le (s := p) (x := x) (by rw [e1]; simp)
          have := Hlk.out
          omega)
        rw [e1] at Hown
        clear e1 e2
        have hown1 := Hown.out
        have hb1 := Hb.out
        obtain ⟨v1, hv1⟩ : ∃ v1, v1 = v := ⟨_, rfl⟩
        obtain ⟨w1, hw1'⟩ : ∃ w1, w1 = wr := ⟨_, rfl⟩
        rw [← hv1, ← hw1'] at hown1
        rw [← hw1'] at hb1
        subst hv1 hw1'
        go_wp2
        obtain ⟨g, cap, rfl, hBg, hglt⟩ := World.ownsRow.form hown1 (by simp)
        have hqn : (q ++ [x]).length = q.length + 1 := by simp
        have hq6 : q.length ≤ 1000000 := by have := Hle.out; have := Hlk.out; have := HQ.out; omega
        have c1 : w1.cell? ⟨g, q.length, none⟩ = some (.string ⟨x.toArray⟩) := by
          have := World.ownsRow.cellAt hown1 q.length (by simp)
          rw [this]; exact texts_last q x
        have f1 := World.ownsRow.frozenAt hown1 q.length
        have hst := (World.ownsRow.stored hown1 q.length (.string ⟨(x ++ [z]).toArray⟩)).1
        rw [texts_set, hqn] at hst
        have hst2 : OwT (w1.setCell ⟨g, q.length, none⟩ (.string ⟨(x ++ [z]).toArray⟩)) w.heap.size 9 (.slice (some ⟨g, 0, none⟩) (q.length + 1) cap) (q ++ [x ++ [z]]) := by unfold OwT; rw [show (q ++ [x ++ [z]]).length = q.length + 1 from by simp]; exact hst
        have hst' : OwT (w1.setCell ⟨g, q.length, none⟩ (.string ⟨(x ++ [z]).toArray⟩)) w.heap.size 9 (.slice (some ⟨g, 0, none⟩) (q.length + 1) cap) (lns (p ++ [z])) := by rw [Hl1.out]; exact hst2
        have Hb2 := hide (below_put hb1 (g := g) (i := q.length) hBg (.string ⟨(x ++ [z]).toArray⟩))
        have Hst := hide hst'
        have ea := app_txt x [z]
        have eb := closed_false_of z p
        have Eb := hide eb
        clear hown1 hb1 hst hst' hst2 hBg eb
        simp only [hqn]
        clear hqn
        obtain ⟨n, hnq⟩ : ∃ n, n = q.length := ⟨_, rfl⟩
        rw [← hnq] at hq6 c1 f1 Hst Hb2 ⊢
        clear hnq hglt
        have hx6 := HX.out
        have hn1 : (n : Int) < (n : Int) + 1 := by omega
        have hk1 : (k : Int) + 1 ≤ (s.length : Int) := by omega
        have hk2 : (k : Int) ≤ (k : Int) + 1 := by omega
        have hk3 : 0 ≤ (k : Int) + 1 := by omega
        have hk4 : ((k : Int) + 1).toNat = k + 1 := by omega
        have hw1 : IntKind.i64.wrap (n : Int) = (n : Int) := IntWalk.i64_in _ (by omega)
        have hw2 : IntKind.i64.wrap ((k : Int) + 1) = (k : Int) + 1 := IntWalk.i64_in _ (by omega)
        refine Rg.wp_region_ord (fun w' => w'.cell? ⟨g, n, none⟩ = some (.string ⟨x.toArray⟩)) [(0, true), (1, true), (2, true), (3, true), (4, true), (5, true), (6, true), (7, true), (8, true), (9, true), (10, true), (11, true), (12, true), (13, true), (14, true), (15, true), (16, true), (17, false)] (by kernel_rfl) (by kernel_rfl) ?_
        simp only [Rg.pick, List.map_cons, List.map_nil, List.getD_cons_zero, List.getD_cons_succ]
        iterate 17 (refine Rg.ord_quiet (v := ?_) rfl (fun w' hS => ?_) c1 ?_; rotate_left; (go_simp; with_reducible rfl); simp only [Act.put, List.setIfInBounds_toArray, List.set_cons_succ, List.set_cons_zero])
        refine Rg.ord_loud rfl (fun K hK => ?_)
        go_simp
        refine hK _ _ (fun hf => absurd (show Rg.sink _ 17 = true from by kernel_rfl) (by rw [hf]; decide)) ?_
        clear hK K c1 f1 hw1 hw2 hk4 hk3 hk2 hk1 hn1
        refine Rg.ord_nil ?_
        go_wp2
        exact ⟨⟨k + 1, _, rfl, by omega, by go_num, by rw [Hts.out, Eb.out], by rw [Hts.out]; exact Hst.out.drew, Hb2.out.drew⟩, by simp [intOf]; omega⟩
    · obtain rfl : k = s.length := by omega
      go_wp2
      go_ret
      exact ⟨v, rfl, by rw [List.take_length] at hown; exact hown, hb⟩
end Go.Proofs.Ytghnieddokhagaa.Li
namespace Go.Proofs.Ytghnieddokhagaa.Li
open Go Go.RowKit Kt Lw

theorem flat_snoc (l : List (List UInt8)) (k : Nat) (h : k < l.length) : (l.take (k + 1)).flatten = (l.take k).flatten ++ l.getD k [] := by
  rw [List.take_succ_eq_append_getElem h, List.flatten_append]; simp [List.getElem?_eq_getElem h]
set_option maxHeartbeats 1000000 in
theorem refJoin_any (l : List (List UInt8)) (A : Option Addr) (c : Nat) (P : Nat → Prop) (w : World) (hs : Vs w P A c (texts l)) (hn : l.length ≤ 1000000) (hl : l.flatten.length ≤ 1000000) :
    Calls Try.prog 37 #[.slice A l.length c] w fun e w' => e = .returned (.string ⟨l.flatten.toArray⟩) ∧ Below w.heap.size w w' := by
  have Hs := hide hs.bound
  clear hs
  obtain ⟨N, hN⟩ : ∃ N, N = l.length := ⟨_, rfl⟩
  rw [← hN] at hn ⊢
  have HN := hide hN
  have Hl := hide hl
  clear hN hl
  go_enter Try.func37, Try.ntmps37
  go_wp2
  go_loopw [3, 4] (fun s i wr => ∃ k : Nat, k ≤ N ∧ i = .int .i64 k ∧ s = .string ⟨(l.take k).flatten.toArray⟩ ∧ Below w.heap.size w wr) (fun _ i _ => N - (intOf i).toNat)
  case atStart => exact ⟨0, Nat.zero_le _, rfl, by simp, Below.refl _ _⟩
  case round =>
    obtain ⟨k, hk, rfl, rfl, hb⟩ := hrel
    have Hb := hide hb
    clear hb
    by_cases hlt : k < N
    · obtain ⟨b, o, rfl, ck⟩ := Hs.out.text Hb.out (k := k) (by have := HN.out; omega)
      have Hf := hide (flat_snoc l k (by have := HN.out; omega))
      have hlen : (l.take k).flatten.length + (l.getD k []).length ≤ 1000000 := by
        have h1 := Hl.out
        have h2 : (l.take (k + 1)).flatten.length ≤ l.flatten.length := by
          conv => rhs; rw [← List.take_append_drop (k + 1) l, List.flatten_append, List.length_append]
          omega
        rw [Hf.out, List.length_append] at h2
        omega
      generalize (l.take k).flatten = x at *
      generalize l.getD k [] = y at *
      have ea := app_txt x y
      go_wp2
      exact ⟨⟨k + 1, by omega, by go_num, by rw [Hf.out], Hb.out⟩, by simp [intOf]; omega⟩
    · obtain rfl : k = N := by omega
      go_wp2
      go_ret
      exact ⟨by rw [HN.out, List.take_length]; rfl, Hb.out⟩
end Go.Proofs.Ytghnieddokhagaa.Li
