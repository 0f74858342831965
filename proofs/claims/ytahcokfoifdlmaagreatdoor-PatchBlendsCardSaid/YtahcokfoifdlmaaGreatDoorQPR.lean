/-
  patches: a patch's form.
-/
import Derived.BigQuiet
import Derived.Test.YtahcokfoifdlmaaGreatDoorQNA
import Derived.Test.YtahcokfoifdlmaaGreatDoorQPL
import Derived.Test.YtahcokfoifdlmaaGreatDoorQPB
import Derived.Test.YtahcokfoifdlmaaGreatDoorQEB
import Derived.Test.YtahcokfoifdlmaaGreatDoorTR
import Derived.Lib.AppendZerosOnto
namespace Go.Proofs.YtahcokfoifdlmaaGreatDoor.Tr
open Go Go.RowKit Kt Lw Li Lx Df Wr

theorem flat_le {α : Type} (f : α → Bs) (b : Nat) : ∀ (L : List α), (∀ x ∈ L, (f x).length ≤ b) → (L.flatMap f).length ≤ b * L.length
  | [], _ => by simp
  | x :: L, h => by
    have h1 := h x (by simp)
    have ih := flat_le f b L fun y hy => h y (by simp [hy])
    rw [List.flatMap_cons, List.length_append, List.length_cons, Nat.mul_succ]; omega
theorem within_is {p : Pch} (h : withinB p = true) : p.ids.length ≤ 16 ∧ p.author.length ≤ 100 ∧ p.note.length ≤ 1000 ∧ p.chs.length ≤ 100 ∧ (∀ q ∈ p.ids, q.length = 32) ∧ ∀ c ∈ p.chs, c.path.length ≤ 200 ∧ c.text.length ≤ 65536 := by
  simp only [withinB, Bool.and_eq_true, decide_eq_true_eq] at h
  refine ⟨h.1.1.1.1.1, h.1.1.1.1.2, h.1.1.1.2, h.1.1.2, igo_len h.1.2, fun c hc => ?_⟩
  obtain ⟨_, h2, h3, _⟩ := cgo_above h.2 c hc
  exact ⟨(can_lt h2).2, h3⟩
set_option maxRecDepth 100000 in
theorem fCh_short {c : Ch} (h : c.path.length ≤ 200 ∧ c.text.length ≤ 65536) : (fCh c).length ≤ 65766 := by
  have := fCh_len (c := c) (by omega) (by omega)
  omega
set_option maxRecDepth 100000 in
theorem conv_id (s : List UInt8) (w : World) : ∃ cap ob, (convert 50 39 (.string ⟨s.toArray⟩)).run Tryz.prog w = .ok (.slice (some ⟨w.heap.size, 0, none⟩) s.length cap) (w.drew.alloc ob) ∧ Sl (w.drew.alloc ob) (fun _ => True) (some ⟨w.heap.size, 0, none⟩) cap s :=
  conv_txt s w
/-- what is put of parents -/
theorem ids_put {l : List Bs} (h : ∀ q ∈ l, q.length = 32) (hl : l.length ≤ 16) (k : Nat) : ((l.take k).flatMap txt).length ≤ 700 := by
  have h1 := flat_le txt 42 (l.take k) fun q hq => by
    have := h q (List.mem_of_mem_take hq)
    have := txt_len (s := q) (by omega)
    omega
  have h2 := List.length_take_le k l
  have h3 : (l.take k).length ≤ 16 := by rw [List.length_take]; omega
  omega
theorem chs_put {l : List Ch} (h : ∀ c ∈ l, c.path.length ≤ 200 ∧ c.text.length ≤ 65536) (hl : l.length ≤ 100) (k : Nat) : ((l.take k).flatMap fCh).length ≤ 7000000 := by
  have h1 := flat_le fCh 65766 (l.take k) fun c hc => fCh_short (h c (List.mem_of_mem_take hc))
  have h3 : (l.take k).length ≤ 100 := by rw [List.length_take]; omega
  omega
set_option maxRecDepth 100000 in
set_option maxHeartbeats 8000000 in
theorem pform_any (p : Pch) (Ai Ac : Option Addr) (ci cc : Nat) (P : Nat → Prop) (w : World) (h1 : Vs w P Ai ci (texts p.ids)) (h2 : Chs w Ac cc p.chs) (hp : withinB p = true) :
    Calls Tryz.prog 28 #[PchV p Ai Ac ci cc] w fun y w' => ∃ v, y = .returned v ∧ Own w' w.heap.size 5 v (pform p) ∧ Below w.heap.size w w' := by
  obtain ⟨i1, i2, i3, i4, i5, i6⟩ := within_is hp
  obtain ⟨ids, a, o, chs⟩ := p
  simp only at h1 h2 i1 i2 i3 i4 i5 i6
  have Hi := hide h1.bound
  have Hc := hide h2
  have H5 := hide i5
  have H6 := hide i6
  have HLi := hide (ids_put i5 i1)
  have HLc := hide (chs_put i6 i4)
  have i1' := i1
  have i4' := i4
  unfold PchV pform
  simp only
  obtain ⟨N, hN⟩ : ∃ n, n = ids.length := ⟨_, rfl⟩
  obtain ⟨M, hM⟩ : ∃ n, n = chs.length := ⟨_, rfl⟩
  rw [← hN] at i1 ⊢
  rw [← hM] at i4 ⊢
  have HN := hide hN
  have HM := hide hM
  have ha10 := txt_len (s := a) (by omega)
  have ho10 := txt_len (s := o) (by omega)
  have hfN := form_len (n := N) (by omega)
  have hfM := form_len (n := M) (by omega)
  obtain ⟨g, hg⟩ : ∃ g, g = w.heap.size := ⟨_, rfl⟩
  obtain ⟨w1, hw1⟩ : ∃ w1, w1 = w.alloc (.cells #[.slice Ai N ci, .string ⟨a.toArray⟩, .string ⟨o.toArray⟩, .slice Ac M cc] tP) := ⟨_, rfl⟩
  have hrow := Row.fresh w tP #[.slice Ai N ci, .string ⟨a.toArray⟩, .string ⟨o.toArray⟩, .slice Ac M cc]
  have hb1 : Below w.heap.size w w1 := by rw [hw1]; exact (Below.refl _ w).alloc (Nat.le_refl _) _
  rw [← hw1, ← hg] at hrow
  have HC := hide (show ∀ wz, Below w1.heap.size w1 wz → wz.cell? ⟨g, 0, none⟩ = some (.slice Ai N ci) ∧ wz.cell? ⟨g, 1, none⟩ = some (.string ⟨a.toArray⟩) ∧ wz.cell? ⟨g, 2, none⟩ = some (.string ⟨o.toArray⟩) ∧ wz.cell? ⟨g, 3, none⟩ = some (.slice Ac M cc) from fun wz hz => by
    have hr := hrow.below hz hrow.lt
    exact ⟨hr.cell 0, hr.cell 1, hr.cell 2, hr.cell 3⟩)
  have HF := hide (show ∀ wz, Below w1.heap.size w1 wz → Below w.heap.size w wz from fun wz h => hb1.trans (h.mono hb1.size))
  have HB1 := hide (show w.heap.size ≤ w1.heap.size from hb1.size)
  have W1 := hide hw1
  have G1 := hide hg
  have hcvN : IntKind.u64.wrap (N : Int) = (N : Int) := IntWalk.u64_in (n := (N : Int)) (by omega)
  have hcvM : IntKind.u64.wrap (M : Int) = (M : Int) := IntWalk.u64_in (n := (M : Int)) (by omega)
  have HTN := hide (fun wz => num_any [] N none 0 (fun _ => True) wz (Sl.nil _ _ _ _) (by omega) (by simp))
  have Hsm := hide (show N ≤ 16 ∧ M ≤ 100 ∧ a.length ≤ 100 ∧ o.length ≤ 1000 from ⟨i1, i4, i2, i3⟩)
  have Hln := hide (show (txt a).length ≤ 110 ∧ (txt o).length ≤ 1010 ∧ (form N).length ≤ 10 ∧ (form M).length ≤ 10 from ⟨by omega, by omega, hfN, hfM⟩)
  clear h1 h2 hp hN hM hrow hw1 hg hb1 i5 i6 ha10 ho10 hfN hfM i1' i4' i2 i3
  go_enter Tryz.func28, Tryz.ntmps28
  obtain ⟨k0, k1, k2, k3⟩ := HC.out w1 (Below.refl _ _)
  go_wp2_with (first | rw [← W1.out, ← G1.out] | fail)
  refine (HTN.out w1).mono ?_
  rintro y w2 ⟨v2, rfl, hown2, hb2⟩
  have Hown2 := hide hown2
  have Hb2 := hide hb2
  clear hown2 hb2 HTN hcvN k0 k1 k2 k3
  obtain ⟨k0, k1, k2, k3⟩ := HC.out w2 Hb2.out
  go_wp2_with fail
  clear k0 k1 k2 k3
  go_loopw [3, 16] (fun s i wr => ∃ (k : Nat) (v0 : Value), v0 = s ∧ k ≤ N ∧ i = .int .i64 k ∧ Own wr w1.heap.size 5 v0 (form N ++ (ids.take k).flatMap txt) ∧ Below w1.heap.size w1 wr) (fun _ i _ => N - (intOf i).toNat)
  case atStart => exact ⟨0, _, rfl, Nat.zero_le _, rfl, by simpa using Hown2.out, Hb2.out⟩
  case round =>
    obtain ⟨k, v, rfl, hk, rfl, hown, hb⟩ := hrel
    clear Hown2 Hb2
    have Hb := hide hb
    have Hown := hide hown
    clear hb hown
    by_cases hlt : k < N
    · have hkl : k < ids.length := by rw [← HN.out]; exact hlt
      obtain ⟨b, oo, rfl, ck⟩ := Hi.out.text (HF.out _ Hb.out) (k := k) hkl
      have h32 := H5.out (ids.getD k []) (by rw [List.getD_eq_getElem?_getD, List.getElem?_eq_getElem hkl]; exact List.getElem_mem hkl)
      have Htk := hide (show form N ++ (ids.take (k + 1)).flatMap txt = (form N ++ (ids.take k).flatMap txt) ++ (form (ids.getD k []).length ++ ids.getD k []) by
        rw [take_snocD hkl, List.flatMap_append, List.append_assoc]; simp [txt])
      have hlen := HLi.out k
      have hfl := Hln.out.2.2.1
      have hbl : (form N ++ (ids.take k).flatMap txt).length ≤ 800 := by rw [List.length_append]; omega
      generalize ids.getD k [] = x at *
      generalize form N ++ (ids.take k).flatMap txt = bs at *
      obtain ⟨A4, c4, rfl, hsl4⟩ := Hown.out.sl
      obtain ⟨cap4, ob4, hcv4, hcs4⟩ := conv_id x wr
      obtain ⟨z4, hz4⟩ : ∃ z, z = wr.drew.alloc ob4 := ⟨_, rfl⟩
      rw [← hz4] at hcv4 hcs4
      have hbz4 : Below wr.heap.size wr z4 := by rw [hz4]; exact ((Below.refl _ wr).drew).alloc (Nat.le_refl _) _
      have HT4 := hide (text_put bs x A4 c4 (some ⟨wr.heap.size, 0, none⟩) cap4 _ _ z4 (hsl4.move fun g _ hlt => hbz4.block g hlt) hcs4 (by omega))
      have Hbz4 := hide (Hb.out.trans (hbz4.mono Hb.out.size))
      obtain ⟨nb4, hnb4⟩ : ∃ z, z = List.length bs := ⟨_, rfl⟩
      obtain ⟨nx4, hnx4⟩ : ∃ z, z = List.length x := ⟨_, rfl⟩
      obtain ⟨qn4, hqn4⟩ : ∃ z, z = wr.heap.size := ⟨_, rfl⟩
      rw [← hnb4] at HT4 ⊢
      rw [← hnx4, ← hqn4] at HT4 hcv4
      have HX4 := hide hnx4
      clear hsl4 hcs4 hz4 hbz4 hnb4 hnx4 hqn4 hlen hfl hbl h32 hkl
      go_wp2_with fail
      refine HT4.out.mono ?_
      rintro y w4 ⟨v4, rfl, hown4, hb4⟩
      rw [HX4.out] at hown4
      have Hown4 := hide (own_based hown4 Hbz4.out.size)
      have Hb4 := hide (Hbz4.out.trans (hb4.mono Hbz4.out.size))
      clear hown4 hb4 HT4 hcv4 Hown Hb Hbz4 HX4
      go_wp2
      exact ⟨⟨k + 1, _, rfl, by omega, by go_num, by rw [Htk.out]; exact Hown4.out, Hb4.out⟩, by simp [intOf]; omega⟩
    · obtain rfl : k = N := by omega
      have hown := Hown.out
      rw [HN.out, List.take_length, ← HN.out] at hown
      have Hown9 := hide hown
      have hlen := HLi.out k
      rw [HN.out, List.take_length] at hlen
      obtain ⟨k0, k1, k2, k3⟩ := HC.out wr Hb.out
      clear hown Hown
      have hl0 : (form k ++ ids.flatMap txt).length ≤ 800 := by rw [List.length_append]; have := Hln.out.2.2.1; omega
      generalize hbs0 : form k ++ ids.flatMap txt = bs0 at *
      have Hbs0 := hide hbs0
      obtain ⟨wp, hwp⟩ : ∃ z, z = wr := ⟨_, rfl⟩
      subst hwp
      clear hlen hbs0
      obtain ⟨A5, c5, rfl, hsl5⟩ := Hown9.out.sl
      obtain ⟨cap5, ob5, hcv5, hcs5⟩ := conv_txt a wp
      obtain ⟨z5, hz5⟩ : ∃ z, z = wp.drew.alloc ob5 := ⟨_, rfl⟩
      rw [← hz5] at hcv5 hcs5
      have hbz5 : Below wp.heap.size wp z5 := by rw [hz5]; exact ((Below.refl _ wp).drew).alloc (Nat.le_refl _) _
      have HT5 := hide (text_put bs0 a A5 c5 (some ⟨wp.heap.size, 0, none⟩) cap5 _ _ z5 (hsl5.move fun g _ hlt => hbz5.block g hlt) hcs5 (by have := Hsm.out; omega))
      have Hbz5 := hide (Hb.out.trans (hbz5.mono Hb.out.size))
      obtain ⟨nb5, hnb5⟩ : ∃ z, z = List.length bs0 := ⟨_, rfl⟩
      obtain ⟨nx5, hnx5⟩ : ∃ z, z = List.length a := ⟨_, rfl⟩
      obtain ⟨qn5, hqn5⟩ : ∃ z, z = wp.heap.size := ⟨_, rfl⟩
      rw [← hnb5] at HT5 ⊢
      rw [← hnx5, ← hqn5] at HT5 hcv5
      have HX5 := hide hnx5
      clear hsl5 hcs5 hz5 hbz5 hnb5 hnx5 hqn5 
      go_wp2_with fail
      refine HT5.out.mono ?_
      rintro y w5 ⟨v5, rfl, hown5, hb5⟩
      rw [HX5.out] at hown5
      have Hown5 := hide (own_based hown5 Hbz5.out.size)
      have Hb5 := hide (Hbz5.out.trans (hb5.mono Hbz5.out.size))
      clear hown5 hb5 HT5 hcv5 Hown9 Hb Hbz5 HX5
      have hl1 : (bs0 ++ (form a.length ++ a)).length ≤ 1000 := by rw [List.length_append]; have := Hln.out.1; unfold txt at this; omega
      generalize hbs1 : bs0 ++ (form a.length ++ a) = bs1 at *
      have Hbs1 := hide hbs1
      clear hbs1 k0 k1 k2 k3 hl0
      obtain ⟨k0, k1, k2, k3⟩ := HC.out w5 Hb5.out
      obtain ⟨A6, c6, rfl, hsl6⟩ := Hown5.out.sl
      obtain ⟨cap6, ob6, hcv6, hcs6⟩ := conv_txt o w5
      obtain ⟨z6, hz6⟩ : ∃ z, z = w5.drew.alloc ob6 := ⟨_, rfl⟩
      rw [← hz6] at hcv6 hcs6
      have hbz6 : Below w5.heap.size w5 z6 := by rw [hz6]; exact ((Below.refl _ w5).drew).alloc (Nat.le_refl _) _
      have HT6 := hide (text_put bs1 o A6 c6 (some ⟨w5.heap.size, 0, none⟩) cap6 _ _ z6 (hsl6.move fun g _ hlt => hbz6.block g hlt) hcs6 (by have := Hsm.out; omega))
      have Hbz6 := hide (Hb5.out.trans (hbz6.mono Hb5.out.size))
      obtain ⟨nb6, hnb6⟩ : ∃ z, z = List.length bs1 := ⟨_, rfl⟩
      obtain ⟨nx6, hnx6⟩ : ∃ z, z = List.length o := ⟨_, rfl⟩
      obtain ⟨qn6, hqn6⟩ : ∃ z, z = w5.heap.size := ⟨_, rfl⟩
      rw [← hnb6] at HT6 ⊢
      rw [← hnx6, ← hqn6] at HT6 hcv6
      have HX6 := hide hnx6
      clear hsl6 hcs6 hz6 hbz6 hnb6 hnx6 hqn6 
      go_wp2_with fail
      refine HT6.out.mono ?_
      rintro y w6 ⟨v6, rfl, hown6, hb6⟩
      rw [HX6.out] at hown6
      have Hown6 := hide (own_based hown6 Hbz6.out.size)
      have Hb6 := hide (Hbz6.out.trans (hb6.mono Hbz6.out.size))
      clear hown6 hb6 HT6 hcv6 Hown5 Hb5 Hbz6 HX6
      have hl2 : (bs1 ++ (form o.length ++ o)).length ≤ 3000 := by rw [List.length_append]; have := Hln.out.2.1; unfold txt at this; omega
      generalize hbs2 : bs1 ++ (form o.length ++ o) = bs2 at *
      have Hbs2 := hide hbs2
      clear hbs2 k0 k1 k2 k3 hl1
      obtain ⟨k0, k1, k2, k3⟩ := HC.out w6 Hb6.out
      obtain ⟨A7, c7, rfl, hsl7⟩ := Hown6.out.sl
      have HT7 := hide (num_any bs2 M A7 c7 _ w6 hsl7 (by omega) (by omega))
      obtain ⟨nb7, hnb7⟩ : ∃ z, z = List.length bs2 := ⟨_, rfl⟩
      rw [← hnb7] at HT7 ⊢
      clear hsl7 hnb7
      go_wp2_with fail
      refine HT7.out.mono ?_
      rintro y w7 ⟨v7, rfl, hown7, hb7⟩
      have Hown7 := hide (own_based hown7 Hb6.out.size)
      have Hb7 := hide (Hb6.out.trans (hb7.mono Hb6.out.size))
      clear hown7 hb7 HT7 Hown6 Hb6
      have hl3 : (bs2 ++ form M).length ≤ 4000 := by rw [List.length_append]; have := Hln.out.2.2.2; omega
      generalize hbs3 : bs2 ++ form M = bs3 at *
      have Hbs3 := hide hbs3
      clear hbs3 k0 k1 k2 k3 hl2
      have He := hide (show bs3 ++ chs.flatMap fCh = form k ++ (ids.flatMap txt ++ (txt a ++ (txt o ++ (form M ++ chs.flatMap fCh)))) by
        rw [← Hbs3.out, ← Hbs2.out, ← Hbs1.out, ← Hbs0.out]; simp [txt])
      obtain ⟨k0, k1, k2, k3⟩ := HC.out w7 Hb7.out
      go_wp2_with fail
      clear k0 k1 k2 k3 hcvM
      go_loopw [3, 44] (fun s i wr => ∃ (j : Nat) (v0 : Value), v0 = s ∧ j ≤ M ∧ i = .int .i64 j ∧ Own wr w1.heap.size 5 v0 (bs3 ++ (chs.take j).flatMap fCh) ∧ Below w1.heap.size w1 wr) (fun _ i _ => M - (intOf i).toNat)
      case atStart => exact ⟨0, _, rfl, Nat.zero_le _, rfl, by simpa using Hown7.out, Hb7.out⟩
      case round =>
        obtain ⟨j, v, rfl, hj, rfl, hown, hb⟩ := hrel
        clear Hown7 Hb7
        have Hb := hide hb
        have Hown := hide hown
        clear hb hown
        by_cases hlt : j < M
        · obtain ⟨b, oo, f, rfl, hbl, hf, hd, d0, dm, d1⟩ := Hc.out.at (w' := wr) (HF.out _ Hb.out) (k := j) (by have := HM.out; omega)
          have hft := H6.out f (List.mem_of_getElem? hf)
          have Htk := hide (show bs3 ++ (chs.take (j + 1)).flatMap fCh = (bs3 ++ (chs.take j).flatMap fCh) ++ fCh f by
            rw [take_snocC hf, List.flatMap_append, List.append_assoc]; simp)
          have hlen := HLc.out j
          have hfl := fCh_short hft
          have hbL : (bs3 ++ (chs.take j).flatMap fCh).length ≤ 8000000 := by rw [List.length_append]; omega
          obtain ⟨bs, hbs⟩ : ∃ bs, bs = bs3 ++ (chs.take j).flatMap fCh := ⟨_, rfl⟩
          rw [← hbs] at Hown Htk hbL
          have HFc := hide (fun wz => change_any f wz hft.1 hft.2)
          obtain ⟨l, hl⟩ : ∃ l, l = fCh f := ⟨_, rfl⟩
          rw [← hl] at HFc Htk hfl
          obtain ⟨p, gn, x⟩ := f
          simp only at d0 dm d1 HFc
          have hrow := Row.fresh wr tC #[.string ⟨p.toArray⟩, .bool gn, .string ⟨x.toArray⟩]
          have ho1 := (Below.refl wr.heap.size wr).alloc (Nat.le_refl _) (.cells #[.string ⟨p.toArray⟩, .bool gn, .string ⟨x.toArray⟩] tC)
          have c0 := hrow.cell 0
          have c1 := hrow.cell 1
          have c2 := hrow.cell 2
          simp only [List.getElem?_cons_zero, List.getElem?_cons_succ] at c0 c1 c2
          have Hlen := hide (show bs.length + l.length ≤ 70368744177664 by omega)
          have HbA := hide (Hb.out.alloc Hb.out.size (.cells #[.string ⟨p.toArray⟩, .bool gn, .string ⟨x.toArray⟩] tC))
          have HownA := hide (Hown.out.kept ho1)
          clear hf hd hbl hlen hfl hbL hbs hl hrow ho1 hft Hown
          go_wp2_with fail
          refine (HFc.out _).mono ?_
          rintro y w4 ⟨v4, rfl, hown4, hb4⟩
          have Hb4 := hide (HbA.out.trans (hb4.mono HbA.out.size))
          have HownB := hide (HownA.out.kept hb4)
          obtain ⟨A4, c4, rfl, hsl4⟩ := hown4.sl
          have Hsl4 := hide hsl4
          clear hown4 hb4 hsl4 HFc HownA c0 c1 c2 d0 dm d1
          rename_i KK hKK
          refine hKK _ _ ?_
          clear hKK KK
          refine wpList_cat rfl (.tmp 48) (.tmp 50) 39 rfl Tryz.underlying39 info8 w1.heap.size w1 _ bs l _ A4 c4 rfl rfl HownB.out Hsl4.out Hlen.out Hb4.out Hb4.out.size ?_
          intro v5 w5 hown5 hb5 _
          have Hown5 := hide hown5
          have Hb5 := hide hb5
          clear hown5 hb5
          go_wp2
          exact ⟨⟨j + 1, _, rfl, by omega, by go_num, by rw [Htk.out]; exact Hown5.out, Hb5.out⟩, by simp [intOf]; omega⟩
        · obtain rfl : j = M := by omega
          have hown := Hown.out
          rw [HM.out, List.take_length, He.out] at hown
          have Hown9 := hide (own_based hown HB1.out)
          clear hown Hown
          go_wp2
          go_ret
          exact ⟨_, rfl, Hown9.out, HF.out _ Hb.out⟩
end Go.Proofs.YtahcokfoifdlmaaGreatDoor.Tr
namespace Go.Proofs.YtahcokfoifdlmaaGreatDoor.Tr
open Go Go.RowKit Kt Lw Li Lx

theorem cmp_lt : ∀ a b : Bs, lt a b = true → Lib.compareBytes a b = -1
  | _, [], h => by simp [lt, Op.bytesLess] at h
  | [], _ :: _, _ => rfl
  | x :: a, y :: b, h => by
    rw [lt_cons, Bool.or_eq_true, Bool.and_eq_true, decide_eq_true_iff, beq_iff_eq] at h
    rw [Lib.compareBytes]
    rcases h with h | ⟨h1, h2⟩
    · rw [if_pos h]
    · subst h1
      rw [if_neg (by rw [UInt8.lt_iff_toNat_lt]; omega), if_neg (by rw [UInt8.lt_iff_toNat_lt]; omega), cmp_lt a b h2]
theorem cmp_gt : ∀ a b : Bs, lt b a = true → Lib.compareBytes a b = 1
  | [], _, h => by simp [lt, Op.bytesLess] at h
  | _ :: _, [], _ => rfl
  | x :: a, y :: b, h => by
    rw [lt_cons, Bool.or_eq_true, Bool.and_eq_true, decide_eq_true_iff, beq_iff_eq] at h
    rw [Lib.compareBytes]
    rcases h with h | ⟨h1, h2⟩
    · rw [if_neg (by rw [UInt8.lt_iff_toNat_lt] at h ⊢; omega), if_pos h]
    · subst h1
      rw [if_neg (by rw [UInt8.lt_iff_toNat_lt]; omega), if_neg (by rw [UInt8.lt_iff_toNat_lt]; omega), cmp_gt a b h2]
theorem cmp_eq : ∀ a : Bs, Lib.compareBytes a a = 0
  | [] => rfl
  | x :: a => by
    rw [Lib.compareBytes, if_neg (by rw [UInt8.lt_iff_toNat_lt]; omega), if_neg (by rw [UInt8.lt_iff_toNat_lt]; omega), cmp_eq a]
/-- how two paths stand -/
def cmp (a b : Bs) : Int := if lt a b then -1 else if a = b then 0 else 1
theorem cmp_is (a b : Bs) : Lib.compareBytes a b = cmp a b := by
  unfold cmp
  rcases lt_tri a b with h | h | h
  · rw [if_pos h, cmp_lt a b h]
  · subst h; rw [lt_irr, if_neg (by decide), if_pos rfl, cmp_eq]
  · rw [lt_asymm h, if_neg (by decide), if_neg (fun e => lt_ne h e.symm), cmp_gt a b h]
set_option maxRecDepth 100000 in
theorem cmp_any (p x q : Bs) (w : World) :
    Calls Tryz.prog 60 #[.agg #[.string ⟨p.toArray⟩, .string ⟨x.toArray⟩], .string ⟨q.toArray⟩] w fun y w' => y = .returned (.int .i64 (cmp p q)) ∧ Below w.heap.size w w' := by
  have hrow := Row.fresh w tF #[.string ⟨p.toArray⟩, .string ⟨x.toArray⟩]
  have hb1 := (Below.refl w.heap.size w).alloc (Nat.le_refl _) (.cells #[.string ⟨p.toArray⟩, .string ⟨x.toArray⟩] tF)
  have HC := hide (fun w => Tryz.strings_Compare ⟨p.toArray⟩ ⟨q.toArray⟩ w)
  have hc : Lib.compareBytes (ByteArray.mk p.toArray).data.toList (ByteArray.mk q.toArray).data.toList = cmp p q := cmp_is p q
  rw [hc] at HC
  have c0 : (w.alloc (.cells #[.string ⟨p.toArray⟩, .string ⟨x.toArray⟩] tF)).cell? ⟨w.heap.size, 0, none⟩ = some (.string ⟨p.toArray⟩) := hrow.cell 0
  have Hb1 := hide hb1
  clear hrow hc hb1
  generalize cmp p q = z at *
  go_enter Tryz.func60, Tryz.ntmps60
  go_wp2_with fail
  refine (HC.out _).mono ?_
  rintro y w1 ⟨rfl, rfl⟩
  go_wp2
  go_ret
  exact ⟨rfl, Hb1.out⟩
/-- what the search has found so far -/
structure Seek (t : List Fl) (p : Bs) (lo hi : Nat) : Prop where
  le : lo ≤ hi
  len : hi ≤ t.length
  lo : ∀ k g, t[k]? = some g → k < lo → lt g.path p = true
  hi : ∀ k g, t[k]? = some g → hi ≤ k → lt g.path p = false
theorem Seek.start (t : List Fl) (p : Bs) : Seek t p 0 t.length :=
  ⟨Nat.zero_le _, Nat.le_refl _, fun _ _ _ h => absurd h (by omega), fun k g h h' => by have := (List.getElem?_eq_some_iff.1 h).1; omega⟩
theorem Seek.up {t : List Fl} {p : Bs} {lo hi m : Nat} {f : Fl} (h : Seek t p lo hi) {q : Option Bs} (hg : go q t = true) (hf : t[m]? = some f) (hm : m < hi) (hl : lt f.path p = true) : Seek t p (m + 1) hi :=
  ⟨by omega, h.len, fun k g hk hkm => go_mono hg hk hf (by omega) hl, h.hi⟩
theorem Seek.down {t : List Fl} {p : Bs} {lo hi m : Nat} {f : Fl} (h : Seek t p lo hi) {q : Option Bs} (hg : go q t = true) (hf : t[m]? = some f) (hm : lo ≤ m) (hh : m ≤ hi) (hl : lt f.path p = false) : Seek t p lo m :=
  ⟨hm, by have := h.len; omega, h.lo, fun k g hk hkm => by
    cases hx : lt g.path p with
    | false => rfl
    | true => have := go_mono hg hf hk hkm hx; rw [hl] at this; cases this⟩
theorem Seek.done {t : List Fl} {p : Bs} {k : Nat} (h : Seek t p k k) : pos t p = k :=
  pos_of t p k h.len (fun j g hj hjk => h.lo j g hj hjk) (fun g hg => h.hi k g hg (Nat.le_refl _))
set_option maxRecDepth 100000 in
set_option maxHeartbeats 4000000 in
theorem search_any (t : List Fl) (p : Bs) (A : Option Addr) (c : Nat) (w : World) (hs : Fls w A c t) (hn : t.length ≤ 1000000) {q : Option Bs} (hg : go q t = true) :
    Calls Tryz.prog 59 #[.slice A t.length c, .string ⟨p.toArray⟩, .func (.func 60) #[] #[]] w fun y w' =>
      y = .returned (.tuple #[.int .i64 (pos t p : Nat), .bool (hit t p)]) ∧ Below w.heap.size w w' := by
  have Hs := hide hs
  have Hg := hide hg
  have HH := hide (hit_of t p)
  have HC := hide (fun a x w => cmp_any a x p w)
  obtain ⟨N, hN⟩ : ∃ N, N = t.length := ⟨_, rfl⟩
  have HS := hide (Seek.start t p)
  rw [← hN] at hn HS ⊢
  have HN := hide hN
  clear hs hg hN
  go_enter Tryz.func59, Tryz.ntmps59
  go_wp2
  go_loopw [9, 10] (fun s i wr => ∃ lo hi : Nat, lo ≤ hi ∧ hi ≤ N ∧ s = .int .i64 lo ∧ i = .int .i64 hi ∧ Hid (Seek t p lo hi) ∧ Below w.heap.size w wr) (fun s i _ => (intOf i).toNat - (intOf s).toNat)
  case atStart => exact ⟨0, N, Nat.zero_le _, Nat.le_refl _, rfl, rfl, by show Hid _; exact HS, Below.refl _ _⟩
  case round =>
    obtain ⟨lo, hi, hlh, hhn, rfl, rfl, HK, hb⟩ := hrel
    have Hb := hide hb
    clear hb HS
    by_cases hlt : lo < hi
    · obtain ⟨m, hm⟩ : ∃ m, m = (lo + hi) / 2 := ⟨_, rfl⟩
      have hm1 : lo ≤ m := by omega
      have hm2 : m < hi := by omega
      have hm3 : ((lo : Int) + (hi : Int)) / 2 = (m : Int) := by omega
      obtain ⟨b, o, f, rfl, hbl, hf, hd, d0, d1⟩ := Hs.out.at (w' := wr) Hb.out (k := m) (by have := HN.out; omega)
      obtain ⟨a, x⟩ := f
      simp only at d0 d1
      have Hf := hide hf
      clear hf hd hbl hm
      have HCw := HC.out a x
      cases hl : lt a p with
      | true =>
        have HK2 := hide (HK.out.up Hg.out Hf.out hm2 hl)
        rw [show cmp a p = -1 by unfold cmp; rw [hl, if_pos rfl]] at HCw
        have Hw := hide HCw
        clear hl HK HCw
        go_wp2_with fail
        refine (Hw.out _).mono ?_
        rintro y w1 ⟨rfl, hb1⟩
        have Hb1 := hide (Hb.out.trans (hb1.mono Hb.out.size))
        clear hb1 d0 d1
        go_wp2
        exact ⟨⟨m + 1, hi, by omega, by omega, by go_num, rfl, by show Hid _; exact HK2, Hb1.out⟩, by simp [intOf]; omega⟩
      | false =>
        have HK2 := hide (HK.out.down Hg.out Hf.out hm1 (by omega) hl)
        obtain ⟨z, hz, hz2⟩ : ∃ z : Int, cmp a p = z ∧ 0 ≤ z := by
          unfold cmp; rw [hl, if_neg (by decide)]; split
          · exact ⟨_, rfl, by decide⟩
          · exact ⟨_, rfl, by decide⟩
        rw [hz] at HCw
        have Hw := hide HCw
        have hz3 : ¬ z < 0 := by omega
        have hz4 : decide (z < 0) = false := decide_eq_false hz3
        clear hl HK HCw hz
        go_wp2_with fail
        refine (Hw.out _).mono ?_
        rintro y w1 ⟨rfl, hb1⟩
        have Hb1 := hide (Hb.out.trans (hb1.mono Hb.out.size))
        clear hb1 d0 d1
        go_wp2
        exact ⟨⟨lo, m, by omega, by omega, rfl, by go_num, by show Hid _; exact HK2, Hb1.out⟩, by simp [intOf]; omega⟩
    · obtain rfl : lo = hi := by omega
      have hpos := HK.out.done
      have Hhi := hide (fun g hg => HK.out.hi lo g hg (Nat.le_refl _))
      obtain ⟨h1, h2⟩ := HH.out
      rw [hpos] at h1 h2
      have Hpos := hide hpos
      clear hpos HK
      by_cases hl : lo < N
      · obtain ⟨b, o, f, rfl, hbl, hf, hd, d0, d1⟩ := Hs.out.at (w' := wr) Hb.out (k := lo) (by have := HN.out; omega)
        have hh := h1 f hf
        have hlt2 := Hhi.out f hf
        obtain ⟨a, x⟩ := f
        simp only at d0 d1 hh hlt2
        have HCw := HC.out a x
        have dl : decide ((lo : Int) < (N : Int)) = true := decide_eq_true (by omega)
        have dl2 : decide (lo < N) = true := decide_eq_true hl
        by_cases he : a = p
        · rw [show cmp a p = 0 by unfold cmp; rw [hlt2, if_neg (by decide), if_pos he]] at HCw
          have Hh := hide (show hit t p = true by rw [hh]; exact decide_eq_true he)
          have Hw := hide HCw
          clear HCw hh hlt2 he h1 h2 hf hd hbl
          go_wp2_with fail
          refine (Hw.out _).mono ?_
          rintro y w1 ⟨rfl, hb1⟩
          have Hb1 := hide (Hb.out.trans (hb1.mono Hb.out.size))
          clear hb1 d0 d1
          go_wp2
          go_ret2
          exact ⟨by rw [Hpos.out, Hh.out]; rfl, Hb1.out⟩
        · rw [show cmp a p = 1 by unfold cmp; rw [hlt2, if_neg (by decide), if_neg he]] at HCw
          have Hh := hide (show hit t p = false by rw [hh]; exact decide_eq_false he)
          have Hw := hide HCw
          clear HCw hh hlt2 he h1 h2 hf hd hbl
          go_wp2_with fail
          refine (Hw.out _).mono ?_
          rintro y w1 ⟨rfl, hb1⟩
          have Hb1 := hide (Hb.out.trans (hb1.mono Hb.out.size))
          clear hb1 d0 d1
          go_wp2
          go_ret2
          exact ⟨by rw [Hpos.out, Hh.out]; rfl, Hb1.out⟩
      · have Hh := hide (h2 (by have := HN.out; omega))
        have dl : decide ((lo : Int) < (N : Int)) = false := decide_eq_false (by omega)
        have dl2 : decide (lo < N) = false := decide_eq_false hl
        clear h1 h2
        go_wp2
        go_ret2
        exact ⟨by rw [Hpos.out, Hh.out]; rfl, Hb.out⟩
set_option maxRecDepth 100000 in
set_option maxHeartbeats 4000000 in
theorem place_any (t : List Fl) (p : Bs) (A : Option Addr) (c : Nat) (w : World) (hs : Fls w A c t) (hn : t.length ≤ 1000000) {q : Option Bs} (hg : go q t = true) :
    Calls Tryz.prog 37 #[.slice A t.length c, .string ⟨p.toArray⟩] w fun y w' =>
      y = .returned (.tuple #[.int .i64 (pos t p : Nat), .int .i64 (upto t p : Nat)]) ∧ Below w.heap.size w w' := by
  have HS := hide (search_any t p A c w hs hn hg)
  have hp := pos_le t p
  obtain ⟨N, hN⟩ : ∃ N, N = t.length := ⟨_, rfl⟩
  rw [← hN] at HS hp hn ⊢
  have hu : upto t p = if hit t p then pos t p + 1 else pos t p := rfl
  cases hh : hit t p with
  | true =>
    rw [hh, if_pos rfl] at hu
    rw [hh] at HS
    have Hu := hide hu
    clear hs hN hu hh hg
    generalize upto t p = u at *
    generalize pos t p = k at *
    go_enter Tryz.func37, Tryz.ntmps37
    go_wp2_with fail
    refine HS.out.mono ?_
    rintro y w1 ⟨rfl, hb1⟩
    have Hb1 := hide hb1
    clear hb1 HS
    go_wp2
    go_ret2
    exact ⟨by rw [Hu.out]; rfl, Hb1.out⟩
  | false =>
    rw [hh, if_neg (by decide)] at hu
    rw [hh] at HS
    have Hu := hide hu
    clear hs hN hu hh hg
    generalize upto t p = u at *
    generalize pos t p = k at *
    go_enter Tryz.func37, Tryz.ntmps37
    go_wp2_with fail
    refine HS.out.mono ?_
    rintro y w1 ⟨rfl, hb1⟩
    have Hb1 := hide hb1
    clear hb1 HS
    go_wp2
    go_ret2
    exact ⟨by rw [Hu.out]; rfl, Hb1.out⟩
end Go.Proofs.YtahcokfoifdlmaaGreatDoor.Tr
namespace Go.Proofs.YtahcokfoifdlmaaGreatDoor.Tr
open Go Go.RowKit Kt Lw Li Lx Df

theorem flC_one (L : List Fl) : ∀ u ∈ L.flatMap flC, u.oneCell' = true := by
  intro u hu
  obtain ⟨f, hf, hu⟩ := List.mem_flatMap.1 hu
  simp only [flC, List.mem_cons, List.not_mem_nil, or_false] at hu
  rcases hu with rfl | rfl <;> rfl
set_option maxRecDepth 100000 in
/-- append(l, files..) onto a row of files of the call's own -/
theorem wp_catF {o : Oper} {a : Act} {K : Act → World → Prop} {Q : Exit → Act → World → Prop} {W : World} (s x : Operand)
    (ho : o.op = .call { callee := .builtin .append, args := #[s, x], argTypes := #[22, 22] })
    (B : Nat) (w0 : World) (v : Value) (L M : List Fl) (A : Option Addr) (c : Nat) (hs : a.eval s = v) (hx : a.eval x = .slice A M.length c)
    (hown : OwF W B v L) (hu : Fls W A c M) (hlen : L.length + M.length ≤ 1000000000) (hb : Below B w0 W) (hbase : B ≤ W.heap.size)
    (h : ∀ v' w', OwF w' B v' (L ++ M) → Below B w0 w' → W.grownBy w' v.ownBlock → K (a.put o.dst v') w') : o.wp Tryz.prog a W K Q := by
  obtain ⟨i0, hi0, hz0, hz1, hz2⟩ := info_parts infoFl
  cases A with
  | none =>
    have h0 : M = [] := by
      cases M with
      | nil => rfl
      | cons b r => obtain ⟨_, _, he, _⟩ := hu.2 (by simp); cases he
    subst h0
    have hrun := run_append_nothingT (P := Tryz.prog) (ty := o.type) Tryz.underlying22 hi0 hown c
    simp only [List.length_nil] at hx
    unfold Oper.wp execOp
    simp only [ho, resolve, invoke, builtin, Sem.run_bind, Sem.run_pure, Result.andThen_ok, List.map_toArray, List.map_cons, List.map_nil, hs, hx, hrun]
    exact h v W (by rw [List.append_nil]; exact hown) hb (World.grownBy.refl _ _)
  | some ad =>
    have hl2 : (M.flatMap flC).length = M.length * 2 := flat_len flC 2 flC_len M
    refine wp_append_own _ s x 22 ho B tF i0 (.agg #[.string ⟨#[]⟩, .string ⟨#[]⟩]) 2 32 Tryz.underlying22 hi0 hz0 hz1 hz2 rfl (by omega) v L.length (L.flatMap flC) hs hown
      ad M.length c (M.flatMap flC) hx hl2 (fun j u hj => ?_) (flC_one M) (by unfold maxLen; omega) (by omega) hbase (fun v' w' h1 h2 _ => ?_)
    · have hj2 : j < M.length * 2 := by have := (List.getElem?_eq_some_iff.1 hj).1; rwa [hl2] at this
      obtain ⟨b, k, he, _, hc⟩ := hu.2 (by omega)
      injection he with he
      subst he
      have hi : j / 2 < M.length := by omega
      have hk : j % 2 < 2 := Nat.mod_lt _ (by decide)
      have hf := flat_at flC 2 flC_len M (j / 2) (j % 2) _ (List.getElem?_eq_getElem hi) hk
      rw [show 2 * (j / 2) + j % 2 = j by omega, hj] at hf
      have := hc (j / 2) _ (List.getElem?_eq_getElem hi) (j % 2) u hf.symm
      rw [show (Addr.mk b k none).add j = ⟨b, k + 2 * (j / 2) + j % 2, none⟩ by rw [Addr.add_mid]; congr 1; omega]
      exact this
    · refine h v' w' ?_ (hb.grown h2 hbase fun k hk => (World.ownsRow.lt hown k hk).1) h2
      unfold OwF
      rw [List.flatMap_append, List.length_append]
      exact h1
theorem wpList_catF {ops : Array Oper} {rest : List Oper} {o : Oper} {a : Act} {Q : Exit → Act → World → Prop} {W : World} (hgd : o.guard = none) (s x : Operand)
    (ho : o.op = .call { callee := .builtin .append, args := #[s, x], argTypes := #[22, 22] })
    (B : Nat) (w0 : World) (v : Value) (L M : List Fl) (A : Option Addr) (c : Nat) (hs : a.eval s = v) (hx : a.eval x = .slice A M.length c)
    (hown : OwF W B v L) (hu : Fls W A c M) (hlen : L.length + M.length ≤ 1000000000) (hb : Below B w0 W) (hbase : B ≤ W.heap.size)
    (h : ∀ v' w', OwF w' B v' (L ++ M) → Below B w0 w' → W.grownBy w' v.ownBlock → wpList Tryz.prog ops Q rest (a.put o.dst v') w') : wpList Tryz.prog ops Q (o :: rest) a W :=
  wpList_plain hgd fun _ hK => wp_catF s x ho B w0 v L M A c hs hx hown hu hlen hb hbase fun v' w' h1 h2 h3 => hK _ _ (h v' w' h1 h2 h3)
/-- a slice that holds these files -/
def IsF (w : World) (v : Value) (L : List Fl) : Prop := ∃ A c, v = .slice A L.length c ∧ Fls w A c L
theorem IsF.below {w w' : World} {v : Value} {L : List Fl} (h : IsF w v L) (hb : Below w.heap.size w w') : IsF w' v L := by
  obtain ⟨A, c, rfl, hs⟩ := h
  exact ⟨A, c, rfl, hs.keep hb⟩
theorem IsF.one (w : World) (f : Fl) : IsF (w.alloc (.cells #[.string ⟨f.path.toArray⟩, .string ⟨f.text.toArray⟩] tF)) (.slice (some ⟨w.heap.size, 0, none⟩) 1 1) [f] :=
  ⟨_, _, rfl, Nat.le_refl _, fun _ => ⟨w.heap.size, 0, rfl, by simp, fun j e hj k u hk => by
    have hrow := Row.fresh w tF #[.string ⟨f.path.toArray⟩, .string ⟨f.text.toArray⟩]
    rcases j with _ | j
    · obtain rfl : f = e := Option.some.inj hj
      rw [hrow.cell]
      simp only [Nat.mul_zero, Nat.zero_add]
      exact hk
    · simp at hj⟩⟩
theorem OwF.made (w : World) (B : Nat) (E : TypeId) (hE : E = tF) (cs : Array Value) (cap : Nat) (hB : B ≤ w.heap.size) (hc : cs.size = cap * 2) (hm : cap ≤ maxLen) : OwF (w.alloc (.cells cs E)) B (.slice (some ⟨w.heap.size, 0, none⟩) 0 cap) [] := by
  subst hE
  exact World.ownsRow_made w cs cap hB hm (by omega)
set_option maxHeartbeats 1000000 in
set_option maxRecDepth 100000 in
theorem growF_nil (n : Nat) (w : World) (hn : n ≤ 1000000000) :
    Calls Tryz.prog 62 #[.slice none 0 0, .int .i64 n] w fun e w' => ∃ v, e = .returned v ∧ OwF w' w.heap.size v [] ∧ Below w.heap.size w w' := by
  by_cases h0 : n = 0
  · subst h0
    go_enter Tryz.func62, Tryz.ntmps62
    go_wp2
    go_ret
    exact ⟨_, rfl, OwF.nil _ _, Below.refl _ _⟩
  · obtain ⟨i0, hi, hz0, hz1, hz2⟩ := info_parts infoFl
    have hrz := fun ty => Lib.run_append_grow_zeros (P := Tryz.prog) w 22 3 ty 48 i0 (.agg #[.string ⟨#[]⟩, .string ⟨#[]⟩]) .i64 .i64 Tryz.underlying22 Tryz.underlying3 hi hz0 none 0 0 [] (run_firstCells_none w.drew i0.size 0 0 0) n (by omega) (by rw [hz1]; omega) (by omega) (by omega) (by rw [hz2]; omega)
      (by rw [hz2]; have := growslice_fits (need := 0 + n) (old := 0) (bytes := 32) (by omega) (by omega); simpa using this)
    have hG1 := grownCap_ge w (0 + n) 0 48
    have hG2 := grownCap_le_maxLen w (0 + n) 0 48 (by unfold maxLen; omega)
    obtain ⟨G, hG⟩ : ∃ G, G = grownCap w (0 + n) 0 48 := ⟨_, rfl⟩
    rw [← hG] at hrz hG1 hG2
    have hG3 := hG2
    unfold maxLen at hG3
    clear hG
    go_enter Tryz.func62, Tryz.ntmps62
    go_wp2_with (at_builtin; go_loud (refine Lib.wpList_append_run _ rfl _ _ _ _ rfl _ _ rfl rfl _ _ (hrz _) ?_))
    go_ret
    refine ⟨_, rfl, OwF.drew (OwF.made w w.heap.size 48 rfl _ G (Nat.le_refl _) ?_ hG2), ((Below.refl _ _).alloc (Nat.le_refl _) _).drew⟩
    simp [Builtin.zeroCells]
    omega
theorem catF_take (ls : List (List Fl)) (k : Nat) (h : k < ls.length) : (ls.take (k + 1)).flatten = (ls.take k).flatten ++ ls.getD k [] := by
  rw [List.take_succ_eq_append_getElem h, List.flatten_append]
  simp [List.getElem?_eq_getElem h]
theorem catF_len (ls : List (List Fl)) (k : Nat) : (ls.take k).flatten.length ≤ ls.flatten.length := by
  have e : ls.flatten = (ls.take k).flatten ++ (ls.drop k).flatten := by rw [← List.flatten_append, List.take_append_drop]
  rw [e, List.length_append]
  omega
set_option maxHeartbeats 2000000 in
set_option maxRecDepth 100000 in
theorem concatF_any (ls : List (List Fl)) (vs : List Value) (g c : Nat) (w : World) (hv : vs.length = ls.length) (hg : Row w g 22 vs) (hc : vs.length ≤ c) (hm : vs.length < 1000)
    (hs : ∀ k, k < ls.length → IsF w (vs.getD k (.bool false)) (ls.getD k [])) (hl : ls.flatten.length ≤ 100000000) :
    Calls Tryz.prog 38 #[.slice (some ⟨g, 0, none⟩) vs.length c] w fun e w' => ∃ v, e = .returned v ∧ OwF w' w.heap.size v ls.flatten ∧ Below w.heap.size w w' := by
  have Hs := hide hs
  have Hl := hide hl
  have Hg := hide hg
  have Hv := hide hv
  have Hc := hide hc
  clear hs hl hg hv hc
  go_enter Tryz.func38, Tryz.ntmps38
  go_wp2
  go_loopw [3, 11] (fun s i wr => ∃ k : Nat, k ≤ vs.length ∧ i = .int .i64 k ∧ s = .int .i64 ((ls.take k).flatten.length : Nat) ∧ w = wr) (fun _ i _ => vs.length - (intOf i).toNat)
  case atStart => exact ⟨0, Nat.zero_le _, rfl, rfl, rfl⟩
  case round =>
    obtain ⟨k, hk, rfl, rfl, rfl⟩ := hrel
    by_cases hlt : k < vs.length
    · have hkl : k < ls.length := by rw [← Hv.out]; exact hlt
      obtain ⟨A, cp, hA, hsl⟩ := Hs.out k hkl
      have Hn := hide (congrArg List.length (catF_take ls k hkl))
      have hb1 := catF_len ls (k + 1)
      rw [Hn.out, List.length_append] at hb1
      have hcell : w.cell? ⟨g, k, none⟩ = some (.slice A (ls.getD k []).length cp) := by
        rw [Hg.out.cell, ← hA]; simp [List.getElem?_eq_getElem hlt]
      have Hsum := hide (Hn.out.trans List.length_append)
      clear Hn hsl
      have hb2 := Hl.out
      generalize (ls.getD k []).length = m at *
      generalize (ls.take k).flatten.length = q at *
      generalize ls.flatten.length = tot at *
      go_wp2
      refine ⟨⟨k + 1, by omega, by go_num, ?_, trivial⟩, ?_⟩
      · rw [Hsum.out]; go_num
      · simp [intOf]; omega
    · obtain rfl : k = vs.length := by omega
      have e1 : ls.take vs.length = ls := List.take_of_length_le (by rw [Hv.out]; exact Nat.le_refl _)
      rw [e1]
      have hb2 := Hl.out
      have Ht := hide (show (ls.take vs.length).flatten = ls.flatten by rw [e1])
      generalize hF : ls.flatten.length = tot at hb2
      have HF := hide hF
      clear hF e1
      go_wp2_with (go_at_call 62; go_loud (refine (growF_nil _ _ (by omega)).mono ?_; rintro e w1 ⟨v1, rfl, hown1, hb1⟩))
      go_loopw [6, 27] (fun s i wx => ∃ (k : Nat) (s0 : Value), s0 = s ∧ k ≤ vs.length ∧ i = .int .i64 k ∧ OwF wx w.heap.size s0 (ls.take k).flatten ∧ Below w.heap.size w wx) (fun _ i _ => vs.length - (intOf i).toNat)
      case atStart => exact ⟨0, _, rfl, Nat.zero_le _, rfl, hown1, hb1⟩
      case round =>
        clear hown1 hb1
        obtain ⟨k, s, rfl, hk, rfl, hown, hb⟩ := hrel
        have Hown := hide hown
        have Hb := hide hb
        clear hown hb
        by_cases hlt : k < vs.length
        · have hkl : k < ls.length := by rw [← Hv.out]; exact hlt
          obtain ⟨A, cp, hA, hsl⟩ := Hs.out k hkl
          have Hcat := hide (catF_take ls k hkl)
          have Hn := hide (congrArg List.length (catF_take ls k hkl))
          have hb1 := catF_len ls (k + 1)
          rw [Hn.out, List.length_append] at hb1
          have hcell : wr.cell? ⟨g, k, none⟩ = some (.slice A (ls.getD k []).length cp) := by
            rw [(Hg.out.below Hb.out Hg.out.lt).cell, ← hA]; simp [List.getElem?_eq_getElem hlt]
          have Hsl := hide (hsl.keep Hb.out)
          have Hlen := hide (show (ls.take k).flatten.length + (ls.getD k []).length ≤ 1000000000 by have := Hl.out; omega)
          clear Hn hsl
          generalize ls.getD k [] = bs at *
          go_wp2_with (refine wpList_catF rfl (.tmp 31) (.tmp 32) rfl w.heap.size w _ _ bs A cp rfl rfl Hown.out Hsl.out Hlen.out Hb.out Hb.out.size ?_; intro v' w2 hown2 hb2 _)
          rw [← Hcat.out] at hown2
          exact ⟨⟨k + 1, _, rfl, by omega, by go_num, hown2, hb2⟩, by simp [intOf]; omega⟩
        · obtain rfl : k = vs.length := by omega
          go_wp2
          go_ret
          refine ⟨_, rfl, ?_, Hb.out⟩
          rw [← Ht.out]
          exact Hown.out
/-- a slice of files, cut -/
theorem fls_take {w : World} {A : Option Addr} {c : Nat} {L : List Fl} (h : Fls w A c L) (j : Nat) (hj : j ≤ L.length) : IsF w (.slice A j c) (L.take j) := by
  have e : (L.take j).length = j := by rw [List.length_take]; omega
  refine ⟨A, c, by rw [e], by have := h.1; omega, fun hn => ?_⟩
  obtain ⟨b, o, rfl, hlt, he⟩ := h.2 (by omega)
  refine ⟨b, o, rfl, hlt, fun k f hk => he k f ?_⟩
  have hkl := (List.getElem?_eq_some_iff.1 hk).1
  rw [← hk, List.getElem?_take, if_pos (by omega)]
theorem fls_drop {w : World} {A : Option Addr} {c : Nat} {L : List Fl} (h : Fls w A c L) (i : Nat) (hi : i ≤ L.length) : IsF w (.slice (if c = i then A else A.map (·.add (i * 2))) (L.length - i) (c - i)) (L.drop i) := by
  refine ⟨_, _, by rw [List.length_drop], by have := h.1; rw [List.length_drop]; omega, fun hn => ?_⟩
  rw [List.length_drop] at hn
  obtain ⟨b, o, rfl, hlt, he⟩ := h.2 (by omega)
  have := h.1
  rw [if_neg (by omega)]
  refine ⟨b, o + i * 2, by rw [Option.map_some, Addr.add_mid], hlt, fun k f hk => ?_⟩
  rw [List.getElem?_drop] at hk
  have := he (i + k) f hk
  rw [show o + 2 * (i + k) = o + i * 2 + 2 * k by omega] at this
  exact this
theorem run_cutF1 (w : World) (A : Option Addr) (n c i : Nat) (hi : i ≤ n) (_hn : n ≤ c) :
    (Instr.slice 22 (.slice A n c) (some (.int .i64 (i : Int))) none none).run Tryz.prog w = .ok (.slice (if c = i then A else A.map (·.add (i * 2))) (n - i) (c - i)) w := by
  have hu := run_underlying Tryz.underlying22
  by_cases h : c = i
  · cases A with
    | none => go_simp
    | some ad => go_simp
  · cases A with
    | none => go_simp
    | some ad => go_simp
end Go.Proofs.YtahcokfoifdlmaaGreatDoor.Tr
namespace Go.Proofs.YtahcokfoifdlmaaGreatDoor.Tr
open Go Go.RowKit Kt Lw Li Lx Df

theorem run_cutF (w : World) (A : Option Addr) (n c j : Nat) (hj : j ≤ c) :
    (Instr.slice 22 (.slice A n c) none (some (.int .i64 (j : Int))) none).run Tryz.prog w = .ok (.slice A j c) w := by
  have hu := run_underlying Tryz.underlying22
  cases A with
  | none => go_simp
  | some ad =>
    have h0 : ad.add 0 = ad := rfl
    by_cases hc : c = 0
    · subst hc
      obtain rfl : j = 0 := by omega
      go_simp
    · go_simp
set_option maxRecDepth 100000 in
set_option maxHeartbeats 4000000 in
theorem tget_any (t : List Fl) (p : Bs) (A : Option Addr) (c : Nat) (w : World) (hs : Fls w A c t) (hn : t.length ≤ 1000000) {q : Option Bs} (hg : go q t = true) :
    Calls Tryz.prog 44 #[.slice A t.length c, .string ⟨p.toArray⟩] w fun y w' => y = .returned (.tuple #[.string ⟨(get t p).1.toArray⟩, .bool (get t p).2]) ∧ Below w.heap.size w w' := by
  have HP := hide (place_any t p A c w hs hn hg)
  obtain ⟨g1, g2⟩ := got_at (p := p) hg
  have hpos := hit_pos t p
  have Hs := hide hs
  have hu : upto t p = if hit t p then pos t p + 1 else pos t p := rfl
  obtain ⟨N, hN⟩ : ∃ N, N = t.length := ⟨_, rfl⟩
  have HN := hide hN
  rw [← hN] at HP hn hpos ⊢
  clear hs hN hg
  cases hh : hit t p with
  | true =>
    have hk := hpos hh
    have g3 := fun g hg => g2 g hg hh
    rw [hh, if_pos rfl] at hu
    rw [hu] at HP
    clear g1 g2 hpos hu hh
    generalize pos t p = k at *
    obtain ⟨b, o, f, rfl, hbl, hf, hd, _, _⟩ := Hs.out.at (w' := w) (Below.refl _ _) (k := k) (by have := HN.out; omega)
    have HG := hide (g3 f hf)
    have HD := hide (fun w' (hb : Below w.heap.size w w') => show w'.cell? ⟨b, o + k * 2 + 1, none⟩ = some (.string ⟨f.text.toArray⟩) by
      obtain ⟨b', o', f', e, _, hf', _, _, d1⟩ := Hs.out.at hb (k := k) (by have := HN.out; omega)
      injection e with e
      injection e with e1 e2 e3
      subst e1 e2
      rw [hf] at hf'
      obtain rfl := Option.some.inj hf'
      exact d1)
    obtain ⟨x, hx⟩ : ∃ x, x = f.text := ⟨_, rfl⟩
    rw [← hx] at HG HD
    have hkn : ¬ (k : Int) = ((k + 1 : Nat) : Int) := by omega
    clear g3 hf hd hx hbl
    go_enter Tryz.func44, Tryz.ntmps44
    go_wp2_with fail
    refine HP.out.mono ?_
    rintro y w1 ⟨rfl, hb1⟩
    have d1 := HD.out w1 hb1
    have Hb1 := hide hb1
    clear hb1 HP HD
    go_wp2
    go_ret2
    exact ⟨by rw [HG.out]; rfl, Hb1.out⟩
  | false =>
    have HG := hide (g1 hh)
    rw [hh, if_neg (by decide)] at hu
    rw [hu] at HP
    clear g1 g2 hpos hu hh
    generalize pos t p = k at *
    go_enter Tryz.func44, Tryz.ntmps44
    go_wp2_with fail
    refine HP.out.mono ?_
    rintro y w1 ⟨rfl, hb1⟩
    have Hb1 := hide hb1
    clear hb1 HP
    go_wp2
    go_ret2
    exact ⟨by rw [HG.out]; rfl, Hb1.out⟩
set_option maxRecDepth 100000 in
set_option maxHeartbeats 4000000 in
theorem tdrop_any (t : List Fl) (p : Bs) (A : Option Addr) (c : Nat) (w : World) (hs : Fls w A c t) (hn : t.length ≤ 1000000) {q : Option Bs} (hg : go q t = true) :
    Calls Tryz.prog 22 #[.slice A t.length c, .string ⟨p.toArray⟩] w fun y w' => ∃ v, y = .returned (.tuple #[v, .bool (decide ((drop t p).length < t.length))]) ∧ OwF w' w.heap.size v (drop t p) ∧ Below w.heap.size w w' := by
  have HP := hide (place_any t p A c w hs hn hg)
  have hd := drop_at (p := p) hg
  have hm := hit_mem (p := p) hg
  have hle := upto_le t p
  have hpu := pos_upto t p
  have Hdec := hide (show decide ((drop t p).length < t.length) = decide (pos t p < upto t p) by
    rw [decide_eq_decide]
    unfold upto
    split at hm
    · next h => rw [if_pos h]; omega
    · next h => rw [if_neg h]; omega)
  have hc1 := hs.1
  have Hs := hide hs
  rw [Hdec.out, hd]
  have hk : (t.take (pos t p)).length + (t.drop (upto t p)).length ≤ 1000000 := by rw [List.length_take, List.length_drop]; omega
  have HA := hide (fun w' (hb : Below w.heap.size w w') => fls_take (hs.keep hb) (pos t p) (by omega))
  have HB := hide (fun w' (hb : Below w.heap.size w w') => fls_drop (hs.keep hb) (upto t p) hle)
  obtain ⟨N, hN⟩ : ∃ N, N = t.length := ⟨_, rfl⟩
  rw [← hN] at HP HB hle hn hc1 ⊢
  clear hs hd hm Hdec hg hN Hs
  generalize t.take (pos t p) = X at *
  generalize t.drop (upto t p) = Y at *
  generalize pos t p = k at *
  generalize upto t p = u at *
  have hr0 := fun w => run_cutF w A N c k (by omega)
  have hr1 := fun w => run_cutF1 w A N c u hle hc1
  obtain ⟨A2, hA2⟩ : ∃ A2, (if c = u then A else A.map (·.add (u * 2))) = A2 := ⟨_, rfl⟩
  rw [hA2] at HB hr1
  have HC := hide (fun (g : Nat) (w' : World) (hb : Below w.heap.size w w') (hrow : Row w' g 22 [.slice A k c, .slice A2 (N - u) (c - u)]) =>
    concatF_any [X, Y] [.slice A k c, .slice A2 (N - u) (c - u)] g 2 w' rfl hrow (Nat.le_refl _) (by show 2 < 1000; omega) (fun j hj => by
      rcases j with _ | _ | j
      · exact HA.out w' hb
      · exact HB.out w' hb
      · simp at hj; omega) (by simp; omega))
  have e : ([X, Y] : List (List Fl)).flatten = X ++ Y := by simp
  rw [e] at HC
  clear hA2 HA HB e hk
  go_enter Tryz.func22, Tryz.ntmps22
  go_wp2_with fail
  refine HP.out.mono ?_
  rintro y w1 ⟨rfl, hb1⟩
  have Hb1 := hide hb1
  clear hb1 HP
  go_wp2
  refine Rg.wp_region_ord (fun _ => True) [(0, true), (1, true), (2, true), (3, true), (4, true), (5, true), (8, true), (9, true), (10, true), (6, false), (7, false), (11, true), (12, true)] (by kernel_rfl) (by kernel_rfl) ?_
  simp only [Rg.pick, List.map_cons, List.map_nil, List.getD_cons_zero, List.getD_cons_succ]
  iterate 9 (refine Rg.ord_quiet (v := ?_) rfl (fun w' hS => ?_) trivial ?_; rotate_left; (go_simp; with_reducible rfl); simp only [Act.put, List.setIfInBounds_toArray, List.set_cons_succ, List.set_cons_zero])
  have hrow := Row.fresh w1.drew 22 #[.slice A k c, .slice A2 (N - u) (c - u)]
  have Hb2 := hide (Hb1.out.drew.alloc Hb1.out.drew.size (.cells #[.slice A k c, .slice A2 (N - u) (c - u)] 22))
  refine Rg.ord_loud (by rfl) (fun K hK => ?_)
  go_simp
  refine hK _ _ (fun _ => trivial) ?_
  clear hK K
  refine Rg.ord_loud (by rfl) (fun K hK => ?_)
  go_simp
  refine (HC.out _ _ Hb2.out hrow).mono ?_
  rintro y w2 ⟨v, rfl, hown, hb2⟩
  have Hb3 := hide (Hb2.out.trans (hb2.mono Hb2.out.size))
  have Hown := hide (hown.base Hb2.out.size)
  refine hK _ _ (fun _ => trivial) ?_
  clear hK K hrow hb2 hown Hb2
  iterate 2 (refine Rg.ord_quiet (v := ?_) rfl (fun w' hS => ?_) trivial ?_; rotate_left; (go_simp; with_reducible rfl); simp only [Act.put, List.setIfInBounds_toArray, List.set_cons_succ, List.set_cons_zero])
  refine Rg.ord_nil ?_
  go_wp2
  go_ret2
  exact ⟨_, rfl, Hown.out, Hb3.out⟩
end Go.Proofs.YtahcokfoifdlmaaGreatDoor.Tr
namespace Go.Proofs.YtahcokfoifdlmaaGreatDoor.Tr
open Go Go.RowKit Kt Lw Li Lx Df

set_option maxRecDepth 100000 in
set_option maxHeartbeats 4000000 in
theorem tput_any (t : List Fl) (f : Fl) (A : Option Addr) (c : Nat) (w : World) (hs : Fls w A c t) (hE : Most w) (hn : t.length ≤ 1000000) (hf : f.path.length ≤ 9223372036854775807) {q : Option Bs} (hg : go q t = true) :
    Calls Tryz.prog 23 #[.slice A t.length c, .agg #[.string ⟨f.path.toArray⟩, .string ⟨f.text.toArray⟩]] w fun y w' => ∃ v, y = .returned (.tuple #[v, .int .i64 ((put t f).2 : Nat)]) ∧ OwF w' w.heap.size v (put t f).1 ∧ Below w.heap.size w w' := by
  obtain ⟨p, x⟩ := f
  have hrow := Row.fresh w tF #[.string ⟨p.toArray⟩, .string ⟨x.toArray⟩]
  have hb1 := (Below.refl w.heap.size w).alloc (Nat.le_refl _) (.cells #[.string ⟨p.toArray⟩, .string ⟨x.toArray⟩] tF)
  have HPath := hide (fun w (hE : Most w) => path_any p w hE hf)
  obtain ⟨w1, hw1⟩ : ∃ w1, w1 = w.alloc (.cells #[.string ⟨p.toArray⟩, .string ⟨x.toArray⟩] tF) := ⟨_, rfl⟩
  obtain ⟨g, hgw⟩ : ∃ g, g = w.heap.size := ⟨_, rfl⟩
  rw [← hw1] at hrow hb1
  rw [← hgw] at hrow
  have c0 : w1.cell? ⟨g, 0, none⟩ = some (.string ⟨p.toArray⟩) := hrow.cell 0
  have c1 : w1.cell? ⟨g, 1, none⟩ = some (.string ⟨x.toArray⟩) := hrow.cell 1
  have HE1 := hide (hE.keep hb1)
  have HP := hide (fun w' (hb : Below w.heap.size w w') => place_any t p A c w' (hs.keep hb) hn hg)
  have hd := congrArg List.length (drop_at (p := p) hg)
  rw [List.length_append, List.length_take, List.length_drop] at hd
  have hle := upto_le t p
  have hpu := pos_upto t p
  have hpt := put_at p x hg
  have Hput := hide (show put t ⟨p, x⟩ = if can p = false then ([], 7) else if 65536 < x.length ∨ 1000 ≤ (drop t p).length then ([], 4) else (ins ⟨p, x⟩ (drop t p), 0) from rfl)
  rw [hpt] at Hput
  have hc1 := hs.1
  have hk : (t.take (pos t p)).length + (t.drop (upto t p)).length ≤ 1000000 := by rw [List.length_take, List.length_drop]; omega
  have HA := hide (fun w' (hb : Below w.heap.size w w') => fls_take (hs.keep hb) (pos t p) (by omega))
  have HB := hide (fun w' (hb : Below w.heap.size w w') => fls_drop (hs.keep hb) (upto t p) hle)
  obtain ⟨N, hN⟩ : ∃ N, N = t.length := ⟨_, rfl⟩
  rw [← hN] at HP HB hle hn hc1 hd ⊢
  obtain ⟨D, hD⟩ : ∃ D, D = (drop t p).length := ⟨_, rfl⟩
  rw [← hD] at hd Hput
  have Hb1 := hide hb1
  have W1 := hide hw1
  have G1 := hide hgw
  generalize put t ⟨p, x⟩ = R at *
  clear hs hpt hg hN hE hf hD hrow hb1 hw1 hgw
  generalize t.take (pos t p) = X at *
  generalize t.drop (upto t p) = Y at *
  generalize pos t p = k at *
  generalize upto t p = u at *
  have hr0 := fun w => run_cutF w A N c k (by omega)
  have hr1 := fun w => run_cutF1 w A N c u hle hc1
  obtain ⟨A2, hA2⟩ : ∃ A2, (if c = u then A else A.map (·.add (u * 2))) = A2 := ⟨_, rfl⟩
  rw [hA2] at HB hr1
  have HC := hide (fun (g h : Nat) (w' : World) (hb : Below w.heap.size w w') (hone : IsF w' (.slice (some ⟨h, 0, none⟩) 1 1) [⟨p, x⟩]) (hrow : Row w' g 22 [.slice A k c, .slice (some ⟨h, 0, none⟩) 1 1, .slice A2 (N - u) (c - u)]) =>
    concatF_any [X, [⟨p, x⟩], Y] [.slice A k c, .slice (some ⟨h, 0, none⟩) 1 1, .slice A2 (N - u) (c - u)] g 3 w' rfl hrow (Nat.le_refl _) (by show 3 < 1000; omega) (fun j hj => by
      rcases j with _ | _ | _ | j
      · exact HA.out w' hb
      · exact hone
      · exact HB.out w' hb
      · simp at hj; omega) (by simp; omega))
  have e : ([X, [⟨p, x⟩], Y] : List (List Fl)).flatten = X ++ ⟨p, x⟩ :: Y := by simp
  rw [e] at HC
  have Hr0 := hide hr0
  have Hr1 := hide hr1
  clear hA2 HA HB e hk hr0 hr1
  go_enter Tryz.func23, Tryz.ntmps23
  go_wp2_with fail
  rw [← W1.out, ← G1.out]
  cases hc : can p with
  | false =>
    rw [hc, if_pos rfl] at Hput
    rw [hc] at HPath
    clear hc HP
    refine (HPath.out _ HE1.out).mono ?_
    rintro y w2 ⟨rfl, hb2⟩
    have Hb2 := hide (Hb1.out.trans (hb2.mono Hb1.out.size))
    clear hb2
    go_wp2
    go_ret2
    exact ⟨_, by rw [Hput.out]; rfl, by rw [Hput.out]; exact OwF.nil _ _, Hb2.out⟩
  | true =>
    rw [hc, if_neg (by decide)] at Hput
    rw [hc] at HPath
    clear hc
    refine (HPath.out _ HE1.out).mono ?_
    rintro y w2 ⟨rfl, hb2⟩
    have a0 := agr c0 hb2
    have a1 := agr c1 hb2
    have Hb2 := hide (Hb1.out.trans (hb2.mono Hb1.out.size))
    clear hb2 c0 c1 HPath HE1
    go_wp2_with fail
    refine (HP.out _ Hb2.out).mono ?_
    rintro y w3 ⟨rfl, hb3⟩
    have b0 := agr a0 hb3
    have b1 := agr a1 hb3
    have Hb3 := hide (Hb2.out.trans (hb3.mono Hb2.out.size))
    clear hb3 a0 a1 HP Hb2 Hb1
    by_cases hx : 65536 < x.length
    · rw [if_pos (.inl hx)] at Hput
      have d1 : decide (65536 < (x.length : Int)) = true := decide_eq_true (by omega)
      have d2 : decide (65536 < x.length) = true := decide_eq_true hx
      clear hx hd
      go_wp2
      go_ret2
      exact ⟨_, by rw [Hput.out]; rfl, by rw [Hput.out]; exact OwF.nil _ _, Hb3.out⟩
    · have d1 : decide (65536 < (x.length : Int)) = false := decide_eq_false (by omega)
      have d2 : decide (65536 < x.length) = false := decide_eq_false hx
      have i1 : IntKind.i64.wrap ((u : Int) - (k : Int)) = ((u - k : Nat) : Int) := by rw [IntWalk.i64_in _ (by omega)]; omega
      have i2 : IntKind.i64.wrap ((N : Int) - ((u - k : Nat) : Int)) = ((D : Nat) : Int) := by rw [IntWalk.i64_in _ (by omega)]; omega
      have i3 : IntKind.i64.wrap ((D : Int) + 1) = ((D + 1 : Nat) : Int) := by rw [IntWalk.i64_in _ (by omega)]; omega
      by_cases hM : 1000 ≤ D
      · rw [if_pos (.inr hM)] at Hput
        have d3 : decide (1000 < (D : Int) + 1) = true := decide_eq_true (by omega)
        have d4 : decide (1000 < D + 1) = true := decide_eq_true (by omega)
        clear hx hM hd
        go_wp2
        go_ret2
        exact ⟨_, by rw [Hput.out]; rfl, by rw [Hput.out]; exact OwF.nil _ _, Hb3.out⟩
      · have d3 : decide (1000 < (D : Int) + 1) = false := decide_eq_false (by omega)
        have d4 : decide (1000 < D + 1) = false := decide_eq_false (by omega)
        rw [if_neg (by omega)] at Hput
        clear hx hM hd
        go_wp2
        clear d1 d2 d3 d4 i1 i2 i3
        have e0 : w3.drew.cell? ⟨g, 0, none⟩ = some (.string ⟨p.toArray⟩) := b0
        have e1 : w3.drew.cell? ⟨g, 1, none⟩ = some (.string ⟨x.toArray⟩) := b1
        refine Rg.wp_region_ord (fun w' => w'.cell? ⟨g, 0, none⟩ = some (.string ⟨p.toArray⟩) ∧ w'.cell? ⟨g, 1, none⟩ = some (.string ⟨x.toArray⟩)) [(0, true), (1, true), (2, true), (3, true), (5, true), (6, true), (7, true), (4, false), (8, false), (9, false), (10, true), (11, true)] (by kernel_rfl) (by kernel_rfl) ?_
        simp only [Rg.pick, List.map_cons, List.map_nil, List.getD_cons_zero, List.getD_cons_succ]
        have Hbd : Hid (Below w.heap.size w w3.drew) := hide Hb3.out.drew
        clear b0 b1
        generalize w3.drew = wd at *
        have hr0 := Hr0.out
        have hr1 := Hr1.out
        iterate 7 (refine Rg.ord_quiet (v := ?_) rfl (fun w' hS => ?_) ⟨e0, e1⟩ ?_; rotate_left; (obtain ⟨q0, q1⟩ := hS; go_simp; with_reducible rfl); simp only [Act.put, List.setIfInBounds_toArray, List.set_cons_succ, List.set_cons_zero])
        clear hr0 hr1
        have hone := IsF.one wd ⟨p, x⟩
        simp only at hone
        have ho1 := (Below.refl wd.heap.size wd).alloc (Nat.le_refl _) (.cells #[.string ⟨p.toArray⟩, .string ⟨x.toArray⟩] tF)
        have f0 := agr e0 ho1
        have f1 := agr e1 ho1
        have Hb4 := hide (Hbd.out.alloc Hbd.out.size (.cells #[.string ⟨p.toArray⟩, .string ⟨x.toArray⟩] tF))
        obtain ⟨w4, hw4⟩ : ∃ w4, w4 = wd.alloc (.cells #[.string ⟨p.toArray⟩, .string ⟨x.toArray⟩] tF) := ⟨_, rfl⟩
        obtain ⟨h4, hh4⟩ : ∃ h4, h4 = wd.heap.size := ⟨_, rfl⟩
        rw [← hw4] at hone f0 f1 Hb4
        rw [← hh4] at hone
        have Hone := hide hone
        have W4 := hide hw4
        have H4 := hide hh4
        clear hone ho1 hw4 hh4
        refine Rg.ord_loud (by rfl) (fun K hK => ?_)
        go_simp
        rw [← W4.out, ← H4.out]
        refine hK _ _ (fun _ => ⟨f0, f1⟩) ?_
        clear hK K e0 e1
        have hrow := Row.fresh w4 22 #[.slice A k c, .slice (some ⟨h4, 0, none⟩) 1 1, .slice A2 (N - u) (c - u)]
        have ho2 := (Below.refl w4.heap.size w4).alloc (Nat.le_refl _) (.cells #[.slice A k c, .slice (some ⟨h4, 0, none⟩) 1 1, .slice A2 (N - u) (c - u)] 22)
        have g0 := agr f0 ho2
        have g1 := agr f1 ho2
        have Hone2 := hide (Hone.out.below ho2)
        have Hb5 := hide (Hb4.out.alloc Hb4.out.size (.cells #[.slice A k c, .slice (some ⟨h4, 0, none⟩) 1 1, .slice A2 (N - u) (c - u)] 22))
        have HC2 := hide (HC.out _ _ _ Hb5.out Hone2.out hrow)
        refine Rg.ord_loud (by rfl) (fun K hK => ?_)
        go_simp
        refine hK _ _ (fun _ => ⟨g0, g1⟩) ?_
        clear hK K f0 f1 ho2 hrow
        refine Rg.ord_loud (by rfl) (fun K hK => ?_)
        go_simp
        refine HC2.out.mono ?_
        rintro y w6 ⟨v, rfl, hown, hb6⟩
        have Hb6 := hide (Hb5.out.trans (hb6.mono Hb5.out.size))
        have Hown := hide (hown.base Hb5.out.size)
        have k0 := agr g0 hb6
        have k1 := agr g1 hb6
        refine hK _ _ (fun _ => ⟨k0, k1⟩) ?_
        clear hK K hb6 hown g0 g1
        iterate 2 (refine Rg.ord_quiet (v := ?_) rfl (fun w' hS => ?_) ⟨k0, k1⟩ ?_; rotate_left; (go_simp; with_reducible rfl); simp only [Act.put, List.setIfInBounds_toArray, List.set_cons_succ, List.set_cons_zero])
        refine Rg.ord_nil ?_
        clear k0 k1
        go_wp2
        go_ret2
        exact ⟨_, by rw [Hput.out]; rfl, by rw [Hput.out]; exact Hown.out, Hb6.out⟩
end Go.Proofs.YtahcokfoifdlmaaGreatDoor.Tr
