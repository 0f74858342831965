/-
  The reference of patches: a patch's form.
-/
import Derived.BigQuiet
import Derived.Test.YtabgkfkjnpcbkaaDoorQPL
import Derived.Test.YtabgkfkjnpcbkaaDoorQTH
namespace Go.Proofs.YtabgkfkjnpcbkaaDoor.Tr
open Go Go.RowKit Kt Lw Li Lx Df Wr

/-- a patch whose form the reference can tell -/
structure fitP (p : Pch) : Prop where
  i1 : p.ids.length ≤ 20
  i2 : p.author.length ≤ 105
  i3 : p.note.length ≤ 1005
  i4 : p.chs.length ≤ 100
  i5 : ∀ q ∈ p.ids, q.length = 32
  i6 : ∀ c ∈ p.chs, c.path.length ≤ 200 ∧ c.text.length ≤ 65536
theorem fit_of {p : Pch} (h : withinB p = true) : fitP p := by
  obtain ⟨i1, i2, i3, i4, i5, i6⟩ := within_is h
  exact ⟨by omega, by omega, by omega, i4, i5, i6⟩
theorem ids_put20 {l : List Bs} (h : ∀ q ∈ l, q.length = 32) (hl : l.length ≤ 20) (k : Nat) : ((l.take k).flatMap txt).length ≤ 850 := by
  have h1 := flat_le txt 42 (l.take k) fun q hq => by
    have := h q (List.mem_of_mem_take hq)
    have := txt_len (s := q) (by omega)
    omega
  have h3 : (l.take k).length ≤ 20 := by rw [List.length_take]; omega
  omega
theorem fit_short {p : Pch} (h : fitP p) : (pform p).length ≤ 10000000 := by
  have h1 := ids_put20 h.i5 h.i1 p.ids.length
  have h2 := chs_put h.i6 h.i4 p.chs.length
  rw [List.take_length] at h1 h2
  have g2 := h.i2
  have g3 := h.i3
  have g1 := h.i1
  have g4 := h.i4
  have h3 := txt_len (s := p.author) (by omega)
  have h4 := txt_len (s := p.note) (by omega)
  have h5 := form_len (n := p.ids.length) (by omega)
  have h6 := form_len (n := p.chs.length) (by omega)
  unfold pform
  simp only [List.length_append]
  omega
set_option maxRecDepth 100000 in
set_option maxHeartbeats 8000000 in
theorem rform_any (p : Pch) (Ai Ac : Option Addr) (ci cc : Nat) (P : Nat → Prop) (w : World) (h1 : Vs w P Ai ci (texts p.ids)) (h2 : Chs w Ac cc p.chs) (hp : fitP p) :
    Calls Tryd.prog 30 #[PchV p Ai Ac ci cc] w fun y w' => ∃ v, y = .returned v ∧ Own w' w.heap.size 5 v (pform p) ∧ Below w.heap.size w w' := by
  obtain ⟨i1, i2, i3, i4, i5, i6⟩ := hp
  obtain ⟨ids, a, o, chs⟩ := p
  simp only at h1 h2 i1 i2 i3 i4 i5 i6
  have Hi := hide h1.bound
  have Hc := hide h2
  have H5 := hide i5
  have H6 := hide i6
  have HLi := hide (ids_put20 i5 i1)
  have HLc := hide (chs_put i6 i4)
  have i1' := i1
  have i4' := i4
  unfold PchV pform
  simp only
  obtain ⟨N, hN⟩ : ∃ n, n = ids.length := ⟨_, rfl⟩
  obtain ⟨M, hM⟩ : ∃ n, n = chs.length := ⟨_, rfl⟩
  rw [← hN] at i1 ⊢
  rw [← hM] at i4 ⊢
  have HN := hide hN
  have HM := hide hM
  have ha10 := txt_len (s := a) (by omega)
  have ho10 := txt_len (s := o) (by omega)
  have hfN := form_len (n := N) (by omega)
  have hfM := form_len (n := M) (by omega)
  obtain ⟨g, hg⟩ : ∃ g, g = w.heap.size := ⟨_, rfl⟩
  obtain ⟨w1, hw1⟩ : ∃ w1, w1 = w.alloc (.cells #[.slice Ai N ci, .string ⟨a.toArray⟩, .string ⟨o.toArray⟩, .slice Ac M cc] tP) := ⟨_, rfl⟩
  have hrow := Row.fresh w tP #[.slice Ai N ci, .string ⟨a.toArray⟩, .string ⟨o.toArray⟩, .slice Ac M cc]
  have hb1 : Below w.heap.size w w1 := by rw [hw1]; exact (Below.refl _ w).alloc (Nat.le_refl _) _
  rw [← hw1, ← hg] at hrow
  have HC := hide (show ∀ wz, Below w1.heap.size w1 wz → wz.cell? ⟨g, 0, none⟩ = some (.slice Ai N ci) ∧ wz.cell? ⟨g, 1, none⟩ = some (.string ⟨a.toArray⟩) ∧ wz.cell? ⟨g, 2, none⟩ = some (.string ⟨o.toArray⟩) ∧ wz.cell? ⟨g, 3, none⟩ = some (.slice Ac M cc) from fun wz hz => by
    have hr := hrow.below hz hrow.lt
    exact ⟨hr.cell 0, hr.cell 1, hr.cell 2, hr.cell 3⟩)
  have HF := hide (show ∀ wz, Below w1.heap.size w1 wz → Below w.heap.size w wz from fun wz h => hb1.trans (h.mono hb1.size))
  have HB1 := hide (show w.heap.size ≤ w1.heap.size from hb1.size)
  have W1 := hide hw1
  have G1 := hide hg
  have hcvN : IntKind.u64.wrap (N : Int) = (N : Int) := IntWalk.u64_in (n := (N : Int)) (by omega)
  have hcvM : IntKind.u64.wrap (M : Int) = (M : Int) := IntWalk.u64_in (n := (M : Int)) (by omega)
  have HTN := hide (fun wz => rnum_any [] N none 0 (fun _ => True) wz (Sl.nil _ _ _ _) (by omega) (by simp))
  have Hsm := hide (show N ≤ 20 ∧ M ≤ 100 ∧ a.length ≤ 105 ∧ o.length ≤ 1005 from ⟨i1, i4, i2, i3⟩)
  have Hln := hide (show (txt a).length ≤ 115 ∧ (txt o).length ≤ 1015 ∧ (form N).length ≤ 10 ∧ (form M).length ≤ 10 from ⟨by omega, by omega, hfN, hfM⟩)
  clear h1 h2 hN hM hrow hw1 hg hb1 i5 i6 ha10 ho10 hfN hfM i1' i4' i2 i3
  go_enter Tryd.func30, Tryd.ntmps30
  obtain ⟨k0, k1, k2, k3⟩ := HC.out w1 (Below.refl _ _)
  go_wp2_with (first | rw [← W1.out, ← G1.out] | fail)
  refine (HTN.out w1).mono ?_
  rintro y w2 ⟨v2, rfl, hown2, hb2⟩
  have Hown2 := hide hown2
  have Hb2 := hide hb2
  clear hown2 hb2 HTN hcvN k0 k1 k2 k3
  go_wp2_with fail
  go_loopw [3, 4] (fun s i wr => ∃ (k : Nat) (v0 : Value), v0 = s ∧ k ≤ N ∧ i = .int .i64 k ∧ Own wr w1.heap.size 5 v0 (form N ++ (ids.take k).flatMap txt) ∧ Below w1.heap.size w1 wr) (fun _ i _ => N - (intOf i).toNat)
  case atStart => exact ⟨0, _, rfl, Nat.zero_le _, rfl, by simpa using Hown2.out, Hb2.out⟩
  case round =>
    obtain ⟨k, v, rfl, hk, rfl, hown, hb⟩ := hrel
    clear Hown2 Hb2
    have Hb := hide hb
    have Hown := hide hown
    clear hb hown
    obtain ⟨k0, k1, k2, k3⟩ := HC.out wr Hb.out
    by_cases hlt : k < N
    · have hkl : k < ids.length := by rw [← HN.out]; exact hlt
      obtain ⟨b, oo, rfl, ck⟩ := Hi.out.text (HF.out _ Hb.out) (k := k) hkl
      have h32 := H5.out (ids.getD k []) (by rw [List.getD_eq_getElem?_getD, List.getElem?_eq_getElem hkl]; exact List.getElem_mem hkl)
      have Htk := hide (show form N ++ (ids.take (k + 1)).flatMap txt = (form N ++ (ids.take k).flatMap txt) ++ (form (ids.getD k []).length ++ ids.getD k []) by
        rw [take_snocD hkl, List.flatMap_append, List.append_assoc]; simp [txt])
      have hlen := HLi.out k
      have hfl := Hln.out.2.2.1
      have hbl : (form N ++ (ids.take k).flatMap txt).length ≤ 900 := by rw [List.length_append]; omega
      generalize ids.getD k [] = x at *
      generalize form N ++ (ids.take k).flatMap txt = bs at *
      obtain ⟨A4, c4, rfl, hsl4⟩ := Hown.out.sl
      obtain ⟨cap4, ob4, hcv4, hcs4⟩ := conv_id x wr
      obtain ⟨z4, hz4⟩ : ∃ z, z = wr.drew.alloc ob4 := ⟨_, rfl⟩
      rw [← hz4] at hcv4 hcs4
      have hbz4 : Below wr.heap.size wr z4 := by rw [hz4]; exact ((Below.refl _ wr).drew).alloc (Nat.le_refl _) _
      have HT4 := hide (rtext_any bs x A4 (some ⟨wr.heap.size, 0, none⟩) c4 cap4 _ _ z4 (hsl4.move fun g _ hlt => hbz4.block g hlt) hcs4 (by omega))
      have Hbz4 := hide (Hb.out.trans (hbz4.mono Hb.out.size))
      obtain ⟨nb4, hnb4⟩ : ∃ z, z = List.length bs := ⟨_, rfl⟩
      obtain ⟨nx4, hnx4⟩ : ∃ z, z = List.length x := ⟨_, rfl⟩
      obtain ⟨qn4, hqn4⟩ : ∃ z, z = wr.heap.size := ⟨_, rfl⟩
      rw [← hnb4] at HT4 ⊢
      rw [← hnx4, ← hqn4] at HT4 hcv4
      have HX4 := hide hnx4
      clear hlen hfl hbl h32 hkl hsl4 hcs4 hz4 hbz4 hnb4 hnx4 hqn4
      go_wp2_with fail
      refine HT4.out.mono ?_
      rintro y w4 ⟨v4, rfl, hown4, hb4⟩
      rw [HX4.out] at hown4
      have Hown4 := hide (own_based hown4 Hbz4.out.size)
      have Hb4 := hide (Hbz4.out.trans (hb4.mono Hbz4.out.size))
      clear hown4 hb4 HT4 hcv4 Hown Hb Hbz4 HX4
      clear k0 k1 k2 k3
      go_wp2
      exact ⟨⟨k + 1, _, rfl, by omega, by go_num, by rw [Htk.out]; exact Hown4.out, Hb4.out⟩, by simp [intOf]; omega⟩
    · obtain rfl : k = N := by omega
      have hown := Hown.out
      rw [HN.out, List.take_length, ← HN.out] at hown
      have Hown9 := hide hown
      have hlen := HLi.out k
      rw [HN.out, List.take_length] at hlen
      clear hown Hown
      have hl0 : (form k ++ ids.flatMap txt).length ≤ 900 := by rw [List.length_append]; have := Hln.out.2.2.1; omega
      generalize hbs0 : form k ++ ids.flatMap txt = bs0 at *
      have Hbs0 := hide hbs0
      obtain ⟨wp, hwp⟩ : ∃ z, z = wr := ⟨_, rfl⟩
      subst hwp
      clear hlen hbs0
      obtain ⟨A5, c5, rfl, hsl5⟩ := Hown9.out.sl
      obtain ⟨cap5, ob5, hcv5, hcs5⟩ := conv_txt a wp
      obtain ⟨z5, hz5⟩ : ∃ z, z = wp.drew.alloc ob5 := ⟨_, rfl⟩
      rw [← hz5] at hcv5 hcs5
      have hbz5 : Below wp.heap.size wp z5 := by rw [hz5]; exact ((Below.refl _ wp).drew).alloc (Nat.le_refl _) _
      have HT5 := hide (rtext_any bs0 a A5 (some ⟨wp.heap.size, 0, none⟩) c5 cap5 _ _ z5 (hsl5.move fun g _ hlt => hbz5.block g hlt) hcs5 (by have := Hsm.out; omega))
      have Hbz5 := hide (Hb.out.trans (hbz5.mono Hb.out.size))
      obtain ⟨nb5, hnb5⟩ : ∃ z, z = List.length bs0 := ⟨_, rfl⟩
      obtain ⟨nx5, hnx5⟩ : ∃ z, z = List.length a := ⟨_, rfl⟩
      obtain ⟨qn5, hqn5⟩ : ∃ z, z = wp.heap.size := ⟨_, rfl⟩
      rw [← hnb5] at HT5 ⊢
      rw [← hnx5, ← hqn5] at HT5 hcv5
      have HX5 := hide hnx5
      clear hsl5 hcs5 hz5 hbz5 hnb5 hnx5 hqn5
      go_wp2_with fail
      refine HT5.out.mono ?_
      rintro y w5 ⟨v5, rfl, hown5, hb5⟩
      rw [HX5.out] at hown5
      have Hown5 := hide (own_based hown5 Hbz5.out.size)
      have Hb5 := hide (Hbz5.out.trans (hb5.mono Hbz5.out.size))
      clear hown5 hb5 HT5 hcv5 Hown9 Hb Hbz5 HX5
      have hl1 : (bs0 ++ (form a.length ++ a)).length ≤ 1100 := by rw [List.length_append]; have := Hln.out.1; unfold txt at this; omega
      generalize hbs1 : bs0 ++ (form a.length ++ a) = bs1 at *
      have Hbs1 := hide hbs1
      clear hbs1 k0 k1 k2 k3 hl0
      obtain ⟨k0, k1, k2, k3⟩ := HC.out w5 Hb5.out
      obtain ⟨A6, c6, rfl, hsl6⟩ := Hown5.out.sl
      obtain ⟨cap6, ob6, hcv6, hcs6⟩ := conv_txt o w5
      obtain ⟨z6, hz6⟩ : ∃ z, z = w5.drew.alloc ob6 := ⟨_, rfl⟩
      rw [← hz6] at hcv6 hcs6
      have hbz6 : Below w5.heap.size w5 z6 := by rw [hz6]; exact ((Below.refl _ w5).drew).alloc (Nat.le_refl _) _
      have HT6 := hide (rtext_any bs1 o A6 (some ⟨w5.heap.size, 0, none⟩) c6 cap6 _ _ z6 (hsl6.move fun g _ hlt => hbz6.block g hlt) hcs6 (by have := Hsm.out; omega))
      have Hbz6 := hide (Hb5.out.trans (hbz6.mono Hb5.out.size))
      obtain ⟨nb6, hnb6⟩ : ∃ z, z = List.length bs1 := ⟨_, rfl⟩
      obtain ⟨nx6, hnx6⟩ : ∃ z, z = List.length o := ⟨_, rfl⟩
      obtain ⟨qn6, hqn6⟩ : ∃ z, z = w5.heap.size := ⟨_, rfl⟩
      rw [← hnb6] at HT6 ⊢
      rw [← hnx6, ← hqn6] at HT6 hcv6
      have HX6 := hide hnx6
      clear hsl6 hcs6 hz6 hbz6 hnb6 hnx6 hqn6
      go_wp2_with fail
      refine HT6.out.mono ?_
      rintro y w6 ⟨v6, rfl, hown6, hb6⟩
      rw [HX6.out] at hown6
      have Hown6 := hide (own_based hown6 Hbz6.out.size)
      have Hb6 := hide (Hbz6.out.trans (hb6.mono Hbz6.out.size))
      clear hown6 hb6 HT6 hcv6 Hown5 Hb5 Hbz6 HX6
      have hl2 : (bs1 ++ (form o.length ++ o)).length ≤ 3000 := by rw [List.length_append]; have := Hln.out.2.1; unfold txt at this; omega
      generalize hbs2 : bs1 ++ (form o.length ++ o) = bs2 at *
      have Hbs2 := hide hbs2
      clear hbs2 k0 k1 k2 k3 hl1
      obtain ⟨k0, k1, k2, k3⟩ := HC.out w6 Hb6.out
      obtain ⟨A7, c7, rfl, hsl7⟩ := Hown6.out.sl
      have HT7 := hide (rnum_any bs2 M A7 c7 _ w6 hsl7 (by omega) (by omega))
      obtain ⟨nb7, hnb7⟩ : ∃ z, z = List.length bs2 := ⟨_, rfl⟩
      rw [← hnb7] at HT7 ⊢
      clear hsl7 hnb7
      go_wp2_with fail
      refine HT7.out.mono ?_
      rintro y w7 ⟨v7, rfl, hown7, hb7⟩
      have Hown7 := hide (own_based hown7 Hb6.out.size)
      have Hb7 := hide (Hb6.out.trans (hb7.mono Hb6.out.size))
      clear hown7 hb7 HT7 Hown6 Hb6
      have hl3 : (bs2 ++ form M).length ≤ 4000 := by rw [List.length_append]; have := Hln.out.2.2.2; omega
      generalize hbs3 : bs2 ++ form M = bs3 at *
      have Hbs3 := hide hbs3
      clear hbs3 k0 k1 k2 k3 hl2
      have He := hide (show bs3 ++ chs.flatMap fCh = form k ++ (ids.flatMap txt ++ (txt a ++ (txt o ++ (form M ++ chs.flatMap fCh)))) by
        rw [← Hbs3.out, ← Hbs2.out, ← Hbs1.out, ← Hbs0.out]; simp [txt])
      go_wp2_with fail
      clear hcvM
      go_loopw [3, 5] (fun s i wr => ∃ (j : Nat) (v0 : Value), v0 = s ∧ j ≤ M ∧ i = .int .i64 j ∧ Own wr w1.heap.size 5 v0 (bs3 ++ (chs.take j).flatMap fCh) ∧ Below w1.heap.size w1 wr) (fun _ i _ => M - (intOf i).toNat)
      case atStart => exact ⟨0, _, rfl, Nat.zero_le _, rfl, by simpa using Hown7.out, Hb7.out⟩
      case round =>
        obtain ⟨j, v, rfl, hj, rfl, hown, hb⟩ := hrel
        clear Hown7 Hb7
        have Hb := hide hb
        have Hown := hide hown
        clear hb hown
        obtain ⟨k0, k1, k2, k3⟩ := HC.out wr Hb.out
        by_cases hlt : j < M
        · obtain ⟨b, oo, f, rfl, hbl, hf, hd, d0, dm, d1⟩ := Hc.out.at (w' := wr) (HF.out _ Hb.out) (k := j) (by have := HM.out; omega)
          have hft := H6.out f (List.mem_of_getElem? hf)
          have Htk := hide (show bs3 ++ (chs.take (j + 1)).flatMap fCh = (bs3 ++ (chs.take j).flatMap fCh) ++ fCh f by
            rw [take_snocC hf, List.flatMap_append, List.append_assoc]; simp)
          have hlen := HLc.out j
          have hbL : (bs3 ++ (chs.take j).flatMap fCh).length ≤ 8000000 := by rw [List.length_append]; omega
          obtain ⟨bs, hbs⟩ : ∃ bs, bs = bs3 ++ (chs.take j).flatMap fCh := ⟨_, rfl⟩
          rw [← hbs] at Hown Htk hbL
          obtain ⟨p, gn, x⟩ := f
          simp only at d0 dm d1 hft
          have hp10 := form_len (n := p.length) (by omega)
          obtain ⟨q, hq⟩ : ∃ q, q = wr.heap.size := ⟨_, rfl⟩
          have hrow := Row.fresh wr tC #[.string ⟨p.toArray⟩, .bool gn, .string ⟨x.toArray⟩]
          have hb8 := (Below.refl wr.heap.size wr).alloc (Nat.le_refl _) (.cells #[.string ⟨p.toArray⟩, .bool gn, .string ⟨x.toArray⟩] tC)
          obtain ⟨w8, hw8⟩ : ∃ w8, w8 = wr.alloc (.cells #[.string ⟨p.toArray⟩, .bool gn, .string ⟨x.toArray⟩] tC) := ⟨_, rfl⟩
          rw [← hw8] at hrow hb8
          rw [← hq] at hrow
          have HCc := hide (show ∀ wz, Below w8.heap.size w8 wz → wz.cell? ⟨q, 0, none⟩ = some (.string ⟨p.toArray⟩) ∧ wz.cell? ⟨q, 1, none⟩ = some (.bool gn) ∧ wz.cell? ⟨q, 2, none⟩ = some (.string ⟨x.toArray⟩) from fun wz hz => by
            have hr := hrow.below hz hrow.lt
            exact ⟨hr.cell 0, hr.cell 1, hr.cell 2⟩)
          have HbA := hide (Hb.out.trans (hb8.mono Hb.out.size))
          have HownA := hide (Hown.out.kept hb8)
          have HbZ := hide (Below.refl w8.heap.size w8)
          have HA1 := hide HbA.out
          have W8 := hide hw8
          have Q8 := hide hq
          obtain ⟨e0, e1, e2⟩ := HCc.out w8 (Below.refl _ _)
          clear hf hd hbl hlen hbs hrow hb8 hw8 hq Hown Hb
          obtain ⟨A10, c10, rfl, hsl10⟩ := HownA.out.sl
          obtain ⟨cap10, ob10, hcv10, hcs10⟩ := conv_txt p w8
          obtain ⟨z10, hz10⟩ : ∃ z, z = w8.drew.alloc ob10 := ⟨_, rfl⟩
          rw [← hz10] at hcv10 hcs10
          have hbz10 : Below w8.heap.size w8 z10 := by rw [hz10]; exact ((Below.refl _ w8).drew).alloc (Nat.le_refl _) _
          have HT10 := hide (rtext_any bs p A10 (some ⟨w8.heap.size, 0, none⟩) c10 cap10 _ _ z10 (hsl10.move fun g _ hlt => hbz10.block g hlt) hcs10 (by omega))
          have Hbz10 := hide (HbZ.out.trans (hbz10.mono HbZ.out.size))
          obtain ⟨nb10, hnb10⟩ : ∃ z, z = List.length bs := ⟨_, rfl⟩
          obtain ⟨nx10, hnx10⟩ : ∃ z, z = List.length p := ⟨_, rfl⟩
          obtain ⟨qn10, hqn10⟩ : ∃ z, z = w8.heap.size := ⟨_, rfl⟩
          rw [← hnb10] at HT10 ⊢
          rw [← hnx10, ← hqn10] at HT10 hcv10
          have HX10 := hide hnx10
          clear hsl10 hcs10 hz10 hbz10 hnb10 hnx10 hqn10
          go_wp2_with (first | rw [← W8.out, ← Q8.out] | fail)
          refine HT10.out.mono ?_
          rintro y w10 ⟨v10, rfl, hown10, hb10⟩
          rw [HX10.out] at hown10
          have Hown10 := hide (own_based hown10 (Nat.le_trans HA1.out.size Hbz10.out.size))
          replace HbZ := hide (Hbz10.out.trans (hb10.mono Hbz10.out.size))
          clear hown10 hb10 HT10 hcv10 HownA Hbz10 HX10
          clear d0 dm d1 k0 k1 k2 k3 e0 e1 e2
          have hl4 : (bs ++ (form p.length ++ p)).length ≤ 8001000 := by simp only [List.length_append]; omega
          generalize hbs4 : bs ++ (form p.length ++ p) = bs4 at *
          have Hbs4 := hide hbs4
          clear hbs4 hbL hp10
          obtain ⟨e0, e1, e2⟩ := HCc.out w10 HbZ.out
          cases gn with
          | false =>
            obtain ⟨A11, c11, rfl, hsl11⟩ := Hown10.out.sl
            have HT11 := hide (rnum_any bs4 0 A11 c11 _ w10 hsl11 (by omega) (by omega))
            obtain ⟨nb11, hnb11⟩ : ∃ z, z = List.length bs4 := ⟨_, rfl⟩
            rw [← hnb11] at HT11 ⊢
            clear hsl11 hnb11
            go_wp2_with fail
            refine HT11.out.mono ?_
            rintro y w11 ⟨v11, rfl, hown11, hb11⟩
            have Hown11 := hide (own_based hown11 (Nat.le_trans HA1.out.size HbZ.out.size))
            replace HbZ := hide (HbZ.out.trans (hb11.mono HbZ.out.size))
            clear hown11 hb11 HT11 Hown10 e0 e1 e2
            obtain ⟨e0, e1, e2⟩ := HCc.out w11 HbZ.out
            have hf1 := form_len (n := 0) (by omega)
            have hl5 : (bs4 ++ form 0).length ≤ 8002000 := by simp only [List.length_append]; omega
            generalize hbs5 : bs4 ++ form 0 = bs5 at *
            have Hbs5 := hide hbs5
            clear hbs5 hl4 hf1
            obtain ⟨A12, c12, rfl, hsl12⟩ := Hown11.out.sl
            obtain ⟨cap12, ob12, hcv12, hcs12⟩ := conv_txt x w11
            obtain ⟨z12, hz12⟩ : ∃ z, z = w11.drew.alloc ob12 := ⟨_, rfl⟩
            rw [← hz12] at hcv12 hcs12
            have hbz12 : Below w11.heap.size w11 z12 := by rw [hz12]; exact ((Below.refl _ w11).drew).alloc (Nat.le_refl _) _
            have HT12 := hide (rtext_any bs5 x A12 (some ⟨w11.heap.size, 0, none⟩) c12 cap12 _ _ z12 (hsl12.move fun g _ hlt => hbz12.block g hlt) hcs12 (by omega))
            have Hbz12 := hide (HbZ.out.trans (hbz12.mono HbZ.out.size))
            obtain ⟨nb12, hnb12⟩ : ∃ z, z = List.length bs5 := ⟨_, rfl⟩
            obtain ⟨nx12, hnx12⟩ : ∃ z, z = List.length x := ⟨_, rfl⟩
            obtain ⟨qn12, hqn12⟩ : ∃ z, z = w11.heap.size := ⟨_, rfl⟩
            rw [← hnb12] at HT12 ⊢
            rw [← hnx12, ← hqn12] at HT12 hcv12
            have HX12 := hide hnx12
            clear hsl12 hcs12 hz12 hbz12 hnb12 hnx12 hqn12
            go_wp2_with fail
            refine HT12.out.mono ?_
            rintro y w12 ⟨v12, rfl, hown12, hb12⟩
            rw [HX12.out] at hown12
            have Hown12 := hide (own_based hown12 (Nat.le_trans HA1.out.size Hbz12.out.size))
            replace HbZ := hide (Hbz12.out.trans (hb12.mono Hbz12.out.size))
            clear hown12 hb12 HT12 hcv12 Hown11 Hbz12 HX12
            have Hfin := hide (show bs ++ fCh ⟨p, false, x⟩ = bs5 ++ (form x.length ++ x) by rw [← Hbs5.out, ← Hbs4.out]; simp [fCh, txt])
            have Hlast := hide (HA1.out.trans (HbZ.out.mono HA1.out.size))
            clear e0 e1 e2
            go_wp2
            exact ⟨⟨j + 1, _, rfl, by omega, by go_num, by rw [Htk.out, Hfin.out]; exact Hown12.out, Hlast.out⟩, by simp [intOf]; omega⟩
          | true =>
            obtain ⟨A11, c11, rfl, hsl11⟩ := Hown10.out.sl
            have HT11 := hide (rnum_any bs4 1 A11 c11 _ w10 hsl11 (by omega) (by omega))
            obtain ⟨nb11, hnb11⟩ : ∃ z, z = List.length bs4 := ⟨_, rfl⟩
            rw [← hnb11] at HT11 ⊢
            clear hsl11 hnb11
            go_wp2_with fail
            refine HT11.out.mono ?_
            rintro y w11 ⟨v11, rfl, hown11, hb11⟩
            have Hown11 := hide (own_based hown11 (Nat.le_trans HA1.out.size HbZ.out.size))
            replace HbZ := hide (HbZ.out.trans (hb11.mono HbZ.out.size))
            clear hown11 hb11 HT11 Hown10 e0 e1 e2
            obtain ⟨e0, e1, e2⟩ := HCc.out w11 HbZ.out
            have hf1 := form_len (n := 1) (by omega)
            have hl5 : (bs4 ++ form 1).length ≤ 8002000 := by simp only [List.length_append]; omega
            generalize hbs5 : bs4 ++ form 1 = bs5 at *
            have Hbs5 := hide hbs5
            clear hbs5 hl4 hf1
            obtain ⟨A12, c12, rfl, hsl12⟩ := Hown11.out.sl
            obtain ⟨cap12, ob12, hcv12, hcs12⟩ := conv_txt x w11
            obtain ⟨z12, hz12⟩ : ∃ z, z = w11.drew.alloc ob12 := ⟨_, rfl⟩
            rw [← hz12] at hcv12 hcs12
            have hbz12 : Below w11.heap.size w11 z12 := by rw [hz12]; exact ((Below.refl _ w11).drew).alloc (Nat.le_refl _) _
            have HT12 := hide (rtext_any bs5 x A12 (some ⟨w11.heap.size, 0, none⟩) c12 cap12 _ _ z12 (hsl12.move fun g _ hlt => hbz12.block g hlt) hcs12 (by omega))
            have Hbz12 := hide (HbZ.out.trans (hbz12.mono HbZ.out.size))
            obtain ⟨nb12, hnb12⟩ : ∃ z, z = List.length bs5 := ⟨_, rfl⟩
            obtain ⟨nx12, hnx12⟩ : ∃ z, z = List.length x := ⟨_, rfl⟩
            obtain ⟨qn12, hqn12⟩ : ∃ z, z = w11.heap.size := ⟨_, rfl⟩
            rw [← hnb12] at HT12 ⊢
            rw [← hnx12, ← hqn12] at HT12 hcv12
            have HX12 := hide hnx12
            clear hsl12 hcs12 hz12 hbz12 hnb12 hnx12 hqn12
            go_wp2_with fail
            refine HT12.out.mono ?_
            rintro y w12 ⟨v12, rfl, hown12, hb12⟩
            rw [HX12.out] at hown12
            have Hown12 := hide (own_based hown12 (Nat.le_trans HA1.out.size Hbz12.out.size))
            replace HbZ := hide (Hbz12.out.trans (hb12.mono Hbz12.out.size))
            clear hown12 hb12 HT12 hcv12 Hown11 Hbz12 HX12
            have Hfin := hide (show bs ++ fCh ⟨p, true, x⟩ = bs5 ++ (form x.length ++ x) by rw [← Hbs5.out, ← Hbs4.out]; simp [fCh, txt])
            have Hlast := hide (HA1.out.trans (HbZ.out.mono HA1.out.size))
            clear e0 e1 e2
            go_wp2
            exact ⟨⟨j + 1, _, rfl, by omega, by go_num, by rw [Htk.out, Hfin.out]; exact Hown12.out, Hlast.out⟩, by simp [intOf]; omega⟩
        · obtain rfl : j = M := by omega
          have hown := Hown.out
          rw [HM.out, List.take_length, He.out] at hown
          have Hown9 := hide (own_based hown HB1.out)
          clear hown Hown
          go_wp2
          go_ret
          exact ⟨_, rfl, Hown9.out, HF.out _ Hb.out⟩
end Go.Proofs.YtabgkfkjnpcbkaaDoor.Tr
