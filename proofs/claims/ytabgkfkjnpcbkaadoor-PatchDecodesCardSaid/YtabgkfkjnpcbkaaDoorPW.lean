/-
  patches: the patch of a form.
-/
import Derived.BigQuiet
import Derived.Test.YtabgkfkjnpcbkaaDoorQPU
namespace Go.Proofs.YtabgkfkjnpcbkaaDoor.Tr
open Go Go.RowKit Kt Lw Li Lx Df Wr

theorem pdecode_rd {bs : Bs} {n0 n m0 m e1 e2 e3 e4 e5 e6 : Nat} {b1 b2 b3 b4 b5 b6 a o : Bs} {ids : List Bs} {chs : List Ch} {o6 : Bool}
    (h1 : stepNum bs 0 = (n0, b1, e1)) (hn : n = if 16 < n0 then 0 else n0) (h2 : rdIds n b1 e1 = (ids, b2, e2)) (h3 : stepText b2 e2 100 = (a, b3, e3)) (h4 : stepText b3 e3 1000 = (o, b4, e4))
    (h5 : stepNum b4 e4 = (m0, b5, e5)) (hm : m = if 100 < m0 then 0 else m0) (h6 : rdChs m b5 e5 = ((chs, o6), b6, e6)) (hl : ¬ 131072 < bs.length) :
    pdecode bs = if (decide (16 < n0) || decide (100 < m0)) = true then (noPch, 4) else if endOf b6 e6 ≠ 0 then (noPch, endOf b6 e6) else if (o6 || !pright ⟨ids, a, o, chs⟩) = true then (noPch, 3) else (⟨ids, a, o, chs⟩, 0) := by
  unfold pdecode
  rw [if_neg hl, h1]
  simp only []
  by_cases g1 : 16 < n0
  · rw [if_pos g1, decide_eq_true g1, Bool.true_or, if_pos rfl]
  · rw [if_neg g1] at hn ⊢
    subst hn
    rw [h2]
    simp only []
    rw [h3]
    simp only []
    rw [h4]
    simp only []
    rw [h5]
    simp only []
    by_cases g2 : 100 < m0
    · rw [if_pos g2, decide_eq_true g2, Bool.or_true, if_pos rfl]
    · rw [if_neg g2] at hm ⊢
      subst hm
      rw [h6, decide_eq_false g1, decide_eq_false g2]
      rfl
theorem text_short (bs : Bs) (e : Nat) (most : Int) : (stepText bs e most).1.length ≤ bs.length ∧ (stepText bs e most).2.1.length ≤ bs.length := by
  refine ⟨text_len bs e most, ?_⟩
  unfold stepText
  split
  · simp only [List.length_drop]; omega
  · exact Nat.le_refl _
theorem num_short (bs : Bs) (e : Nat) : (stepNum bs e).2.1.length ≤ bs.length := by
  unfold stepNum
  split
  · simp only [List.length_drop]; omega
  · exact Nat.le_refl _
theorem ids_short : ∀ (n : Nat) (b : Bs) (e : Nat), (∀ q ∈ (rdIds n b e).1, q.length ≤ b.length) ∧ (rdIds n b e).2.1.length ≤ b.length
  | 0, b, e => ⟨fun q hq => (by cases hq), Nat.le_refl _⟩
  | n + 1, b, e => by
    have h := text_short b e 32
    obtain ⟨i1, i2⟩ := ids_short n (stepText b e 32).2.1 (stepText b e 32).2.2
    simp only [rdIds]
    refine ⟨fun q hq => ?_, by omega⟩
    rcases List.mem_cons.1 hq with rfl | hq
    · exact h.1
    · exact Nat.le_trans (i1 q hq) h.2
theorem chs_short : ∀ (n : Nat) (b : Bs) (e : Nat), (∀ c ∈ (rdChs n b e).1.1, c.path.length ≤ b.length ∧ c.text.length ≤ b.length)
  | 0, b, e => fun c hc => (by cases hc)
  | n + 1, b, e => by
    have h := text_short b e 200
    have hg := num_short (stepText b e 200).2.1 (stepText b e 200).2.2
    have hx := text_short (stepNum (stepText b e 200).2.1 (stepText b e 200).2.2).2.1 (stepNum (stepText b e 200).2.1 (stepText b e 200).2.2).2.2 65536
    have i1 := chs_short n (stepText (stepNum (stepText b e 200).2.1 (stepText b e 200).2.2).2.1 (stepNum (stepText b e 200).2.1 (stepText b e 200).2.2).2.2 65536).2.1 (stepText (stepNum (stepText b e 200).2.1 (stepText b e 200).2.2).2.1 (stepNum (stepText b e 200).2.1 (stepText b e 200).2.2).2.2 65536).2.2
    simp only [rdChs]
    intro c hc
    rcases List.mem_cons.1 hc with rfl | hc
    · exact ⟨h.1, by simp only; omega⟩
    · obtain ⟨k1, k2⟩ := i1 c hc
      exact ⟨by omega, by omega⟩
set_option maxHeartbeats 1000000 in
set_option maxRecDepth 100000 in
theorem fault_any {w : World} {S : Nat → Prop} {G g e : Nat} {bs : Bs} {lg od : Bool} (h : RdQ w S G g bs e lg od) :
    Calls Tryd.prog 39 #[.pointer (some ⟨G, 0, none⟩)] w fun y w' => y = .returned (.int .i64 ((if lg then 4 else endOf bs e : Nat) : Int)) ∧ Below w.heap.size w w' := by
  have c0 : w.cell? ⟨G, 0, none⟩ = some (.pointer (some ⟨g, 0, none⟩)) := h.row.cell 0
  have c1 : w.cell? ⟨G, 1, none⟩ = some (.bool lg) := h.row.cell 1
  have HE := hide (end_any (RdP.rd (h.rd.imp (T := fun b => 0 ≤ b) fun b _ _ => Nat.zero_le b)))
  clear h
  cases lg with
  | true =>
    go_enter Tryd.func39, Tryd.ntmps39
    go_wp2
    go_ret
    exact ⟨rfl, Below.refl _ _⟩
  | false =>
    generalize endOf bs e = x at *
    go_enter Tryd.func39, Tryd.ntmps39
    go_wp2_with fail
    refine HE.out.mono ?_
    rintro y w1 ⟨rfl, hb1⟩
    have Hb1 := hide hb1
    clear hb1 HE c0 c1
    go_wp2
    go_ret
    exact ⟨rfl, Hb1.out⟩
set_option maxHeartbeats 8000000 in
set_option maxRecDepth 100000 in
theorem pdecode_any (bs : Bs) (A : Option Addr) (c : Nat) (Pb : Nat → Prop) (w : World) (hs : Sl w Pb A c bs) (hE : Most w) (hl : bs.length ≤ 9223372036854775807) :
    Calls Tryd.prog 19 #[.slice A bs.length c] w fun y w' => ∃ vi vc, y = .returned (.tuple #[.agg #[vi, .string ⟨(pdecode bs).1.author.toArray⟩, .string ⟨(pdecode bs).1.note.toArray⟩, vc], .int .i64 ((pdecode bs).2 : Nat)]) ∧
      OwT w' w.heap.size tI vi (pdecode bs).1.ids ∧ OwC w' w.heap.size vc (pdecode bs).1.chs ∧ Below w.heap.size w w' := by
  obtain ⟨R, hR⟩ : ∃ R, R = w.heap.size := ⟨_, rfl⟩
  obtain ⟨w1, hw1⟩ : ∃ w1, w1 = w.alloc (.cells #[.slice none 0 0, .string ⟨#[]⟩, .string ⟨#[]⟩, .slice none 0 0] tP) := ⟨_, rfl⟩
  have r1 : Row w1 R tP (z4 (.slice none 0 0) [] [] (.slice none 0 0)) := by rw [hw1, hR]; exact Row.fresh w _ _
  have hb1 : Below w.heap.size w w1 := by rw [hw1]; exact (Below.refl _ w).alloc (Nat.le_refl _) _
  have HR := hide r1
  have HB := hide hb1
  have HF := hide (show ∀ (wz : World) (i : Nat) (u : Value), Below w.heap.size w wz → Below w.heap.size w (wz.setCell ⟨R, i, none⟩ u) from fun wz i u h => below_put h (by rw [hR]; exact Nat.le_refl _) u)
  have W1 := hide hw1
  have HRw := hide hR
  have HRlt := hide (show R < w1.heap.size from r1.lt)
  have hs1 := hide ((hs.imp (Q := fun _ => True) fun _ _ _ => trivial).move (w' := w1) fun b _ hlt => hb1.block b hlt)
  have HE := hide hE
  by_cases hlong : 131072 < bs.length
  · have HD := hide (show pdecode bs = (noPch, 4) by unfold pdecode; rw [if_pos hlong])
    obtain ⟨nb, hnb⟩ : ∃ z, z = bs.length := ⟨_, rfl⟩
    rw [← hnb] at hlong ⊢
    have d1 : decide (131072 < (nb : Int)) = true := decide_eq_true (by omega)
    have d2 : decide (131072 < nb) = true := decide_eq_true hlong
    generalize pdecode bs = D at *
    have s0 := HR.out.cell 0
    have s1 := HR.out.cell 1
    have s2 := HR.out.cell 2
    have s3 := HR.out.cell 3
    have f0 := HR.out.free 0
    have f1 := HR.out.free 1
    have f2 := HR.out.free 2
    have f3 := HR.out.free 3
    simp only [z4, List.getElem?_cons_zero, List.getElem?_cons_succ] at s0 s1 s2 s3
    clear hs hE hl hR hw1 r1 hb1 hs1 hlong hnb
    go_enter Tryd.func19, Tryd.ntmps19
    go_wp2_with (first | rw [← W1.out, ← HRw.out] | fail)
    have hrf := (((HR.out.put 0 (.slice none 0 0)).put 1 (.string ⟨#[]⟩)).put 2 (.string ⟨#[]⟩)).put 3 (.slice none 0 0)
    exact bodyPost_ret (results_cr rfl _ _ R tP #[.slice none 0 0, .string ⟨#[]⟩, .string ⟨#[]⟩, .slice none 0 0] (0, 0) _ rfl hrf Tryd.underlying25 rfl sizePt) rfl ⟨_, _, by rw [HD.out]; rfl, by rw [HD.out]; exact OwT.nil _ _ _, by rw [HD.out]; exact OwC.nil _ _, HF.out _ _ _ (HF.out _ _ _ (HF.out _ _ _ (HF.out _ _ _ HB.out)))⟩
  obtain ⟨n0, b1, e1, h1⟩ : ∃ n0 b1 e1, stepNum bs 0 = (n0, b1, e1) := ⟨_, _, _, rfl⟩
  obtain ⟨n, hn⟩ : ∃ n, n = if 16 < n0 then 0 else n0 := ⟨_, rfl⟩
  obtain ⟨ids, b2, e2, h2⟩ : ∃ ids b2 e2, rdIds n b1 e1 = (ids, b2, e2) := ⟨_, _, _, rfl⟩
  obtain ⟨a, b3, e3, h3⟩ : ∃ a b3 e3, stepText b2 e2 100 = (a, b3, e3) := ⟨_, _, _, rfl⟩
  obtain ⟨o, b4, e4, h4⟩ : ∃ o b4 e4, stepText b3 e3 1000 = (o, b4, e4) := ⟨_, _, _, rfl⟩
  obtain ⟨m0, b5, e5, h5⟩ : ∃ m0 b5 e5, stepNum b4 e4 = (m0, b5, e5) := ⟨_, _, _, rfl⟩
  obtain ⟨m, hm⟩ : ∃ m, m = if 100 < m0 then 0 else m0 := ⟨_, rfl⟩
  obtain ⟨chs, o6, b6, e6, h6⟩ : ∃ chs o6 b6 e6, rdChs m b5 e5 = ((chs, o6), b6, e6) := ⟨_, _, _, _, rfl⟩
  have hd := pdecode_rd h1 hn h2 h3 h4 h5 hm h6 hlong
  -- what was read is short
  have k1 : b1.length ≤ bs.length := by have := num_short bs 0; rw [h1] at this; exact this
  have k2 := ids_short n b1 e1
  rw [h2] at k2
  have k3 := text_short b2 e2 100
  rw [h3] at k3
  have k4 := text_short b3 e3 1000
  rw [h4] at k4
  have k5 : b5.length ≤ b4.length := by have := num_short b4 e4; rw [h5] at this; exact this
  have k6 := chs_short m b5 e5
  rw [h6] at k6
  simp only at k2 k3 k4 k6
  have hbl : bs.length ≤ 131072 := by omega
  have Hli := hide (show (∀ q ∈ ids, q.length ≤ 131072) ∧ (∀ c ∈ chs, c.path.length ≤ 131072 ∧ c.text.length ≤ 131072) ∧ a.length ≤ 131072 ∧ o.length ≤ 131072 ∧ ids.length ≤ 16 ∧ chs.length ≤ 100 from
    ⟨fun q hq => by have := k2.1 q hq; omega, fun c hc => by have := k6 c hc; omega, by omega, by omega, by have := ids_len n b1 e1; rw [h2] at this; simp only at this; rw [this, hn]; split <;> omega, by have := chs_len m b5 e5; rw [h6] at this; simp only at this; rw [this, hm]; split <;> omega⟩)
  have HO := hide (popen_any bs A c _ w1 hs1.out (by omega))
  have HPt := hide (fun (wz : World) (S : Nat → Prop) (G g : Nat) (hS : ∀ b, S b → b < wz.heap.size) (hq : RdQ wz S G g bs 0 false false) => rpatch_any hS hq h1 hn h2 h3 h4 h5 hm h6)
  obtain ⟨nb, hnb⟩ : ∃ z, z = bs.length := ⟨_, rfl⟩
  rw [← hnb] at HO hbl ⊢
  have d1 : decide (131072 < (nb : Int)) = false := decide_eq_false (by omega)
  have d2 : decide (131072 < nb) = false := decide_eq_false (by omega)
  simp only [Bool.false_or] at HPt
  generalize hlg : (decide (16 < n0) || decide (100 < m0)) = lg at *
  generalize pdecode bs = D at *
  have HD0 := hide hd
  clear hs hE hl hR hw1 r1 hb1 hs1 hlong h1 hn h2 h3 h4 h5 hm h6 hd k1 k2 k3 k4 k5 k6 hbl hnb hlg
  go_enter Tryd.func19, Tryd.ntmps19
  go_wp2_with (first | rw [← W1.out, ← HRw.out] | fail)
  refine HO.out.mono ?_
  rintro y w2 ⟨G, g, rfl, hq2, hG2, hb2⟩
  have Hq2 := hide hq2
  have HG := hide hG2
  have HB2 := hide (HB.out.trans (hb2.mono HB.out.size))
  have HR2 := hide (HR.out.below hb2 HRlt.out)
  have HSg := hide (show w1.heap.size ≤ g from hq2.rd.at_.1)
  clear hq2 hG2 hb2 HB HR HO d1 d2
  go_wp2_with fail
  refine (HPt.out w2 _ G g (fun b hb => Nat.lt_trans hb.2 Hq2.out.row.lt) Hq2.out).mono ?_
  rintro y w3 ⟨vi, vc, rfl, hids3, hchs3, hq3, ho3⟩
  have Hs3 := hide (show w.heap.size ≤ w2.heap.size from HB2.out.size)
  have Hq3 := hide hq3
  have HB3 := hide (ho3.below HB2.out HB2.out.size fun k hk e => by have := HSg.out; have := HG.out; have := HB2.out.size; have := HRlt.out; have := HRw.out; rcases e with e | e <;> omega)
  have HR3 := hide (HR2.out.only ho3 fun e => by have := HSg.out; have := HG.out; have := HRlt.out; rcases e with e | e <;> omega)
  have HI3 := hide hids3
  have HC3 := hide hchs3
  obtain ⟨Ai, ci, rfl, _⟩ := hids3.vs
  obtain ⟨Ac, cc, rfl, _⟩ := hchs3.fls
  obtain ⟨N, hN⟩ : ∃ n, n = ids.length := ⟨_, rfl⟩
  obtain ⟨M, hM⟩ : ∃ n, n = chs.length := ⟨_, rfl⟩
  rw [← hN] at HI3 ⊢
  rw [← hM] at HC3 ⊢
  have HN := hide hN
  have HMh := hide hM
  clear hN hM
  obtain ⟨P, hP⟩ : ∃ P, P = w3.heap.size := ⟨_, rfl⟩
  have hrow := Row.fresh w3 tP #[.slice Ai N ci, .string ⟨a.toArray⟩, .string ⟨o.toArray⟩, .slice Ac M cc]
  have hb4 := (Below.refl w3.heap.size w3).alloc (Nat.le_refl _) (.cells #[.slice Ai N ci, .string ⟨a.toArray⟩, .string ⟨o.toArray⟩, .slice Ac M cc] tP)
  obtain ⟨w4, hw4⟩ : ∃ w4, w4 = w3.alloc (.cells #[.slice Ai N ci, .string ⟨a.toArray⟩, .string ⟨o.toArray⟩, .slice Ac M cc] tP) := ⟨_, rfl⟩
  rw [← hw4] at hrow hb4
  rw [← hP] at hrow
  have Hq4 := hide (Hq3.out.keep hb4)
  have HB4 := hide (HB3.out.trans (hb4.mono HB3.out.size))
  have HR4 := hide (HR3.out.below hb4 HR3.out.lt)
  have HI4 := hide (HI3.out.kept hb4)
  have HC4 := hide (HC3.out.keep hb4)
  have HP4 := hide hrow
  have HFt := hide (fault_any Hq4.out)
  have W4 := hide hw4
  have HPw := hide hP
  clear hids3 hchs3 hq3 ho3 HB2 HR2 Hq2 HPt hrow hb4 hw4 hP Hq3 HB3 HR3 HI3 HC3
  go_wp2_with (first | rw [← W4.out, ← HPw.out] | fail)
  refine HFt.out.mono ?_
  rintro y w5 ⟨rfl, hb5⟩
  have Hq5 := hide (Hq4.out.keep hb5)
  have HB := hide (HB4.out.trans (hb5.mono HB4.out.size))
  have HR := hide (HR4.out.below hb5 HR4.out.lt)
  have HI5 := hide (HI4.out.kept hb5)
  have HC5 := hide (HC4.out.keep hb5)
  have HP5 := hide (HP4.out.below hb5 HP4.out.lt)
  clear hb5 Hq4 HB4 HR4 HI4 HC4 HP4 HFt
  obtain ⟨x, hx⟩ : ∃ x, x = if lg = true then 4 else endOf b6 e6 := ⟨_, rfl⟩
  rw [← hx]
  have hd2 : D = if x ≠ 0 then (noPch, x) else if (o6 || !pright ⟨ids, a, o, chs⟩) = true then (noPch, 3) else (⟨ids, a, o, chs⟩, 0) := by
    rw [HD0.out, hx]
    cases lg with
    | true => rfl
    | false => rfl
  clear hx HD0
  by_cases hx0 : x = 0
  · subst hx0
    rw [if_neg (by decide)] at hd2
    have c2 : w5.drew.cell? ⟨G, 2, none⟩ = some (.bool o6) := Hq5.out.row.cell 2
    have p0 : w5.drew.cell? ⟨P, 0, none⟩ = some (.slice Ai N ci) := HP5.out.cell 0
    have p1 : w5.drew.cell? ⟨P, 1, none⟩ = some (.string ⟨a.toArray⟩) := HP5.out.cell 1
    have p2 : w5.drew.cell? ⟨P, 2, none⟩ = some (.string ⟨o.toArray⟩) := HP5.out.cell 2
    have p3 : w5.drew.cell? ⟨P, 3, none⟩ = some (.slice Ac M cc) := HP5.out.cell 3
    have HRt := hide (show Calls Tryd.prog 15 #[.agg #[.slice Ai N ci, .string ⟨a.toArray⟩, .string ⟨o.toArray⟩, .slice Ac M cc]] w5.drew fun y w' => y = .returned (.bool (pright ⟨ids, a, o, chs⟩)) ∧ Below w5.drew.heap.size w5.drew w' from by
      obtain ⟨A1, c1, e1, hv1⟩ := HI5.out.vs
      obtain ⟨A2, c2, e2, hv2⟩ := HC5.out.fls
      rw [← HN.out] at e1
      rw [← HMh.out] at e2
      cases e1
      cases e2
      have := pright_any ⟨ids, a, o, chs⟩ Ai Ac ci cc w5.drew ⟨⟨hv1.1, fun h => by obtain ⟨b, oo, h1, _, h2⟩ := hv1.2 h; exact ⟨b, oo, h1, trivial, h2⟩⟩, hv2, fun q hq => by have := Hli.out.1 q hq; omega, fun f hf => by have := Hli.out.2.1 f hf; omega, by have := Hli.out; simp only; omega, by have := Hli.out; simp only; omega, by have := Hli.out; simp only; omega, by have := Hli.out; simp only; omega⟩ (HE.out.keep (HB.out.drew))
      unfold PchV at this
      simp only [← HN.out, ← HMh.out] at this
      exact this)
    generalize hpr : pright ⟨ids, a, o, chs⟩ = pr at *
    have HDD := hide hd2
    clear hd2 hpr
    go_wp2
    refine Rg.wp_region_ord (fun w' => w'.cell? ⟨G, 2, none⟩ = some (.bool o6) ∧ w'.cell? ⟨P, 0, none⟩ = some (.slice Ai N ci) ∧ w'.cell? ⟨P, 1, none⟩ = some (.string ⟨a.toArray⟩) ∧ w'.cell? ⟨P, 2, none⟩ = some (.string ⟨o.toArray⟩) ∧ w'.cell? ⟨P, 3, none⟩ = some (.slice Ac M cc)) [(0, true), (1, true), (2, true), (3, true), (4, true), (5, false), (6, true), (7, false), (8, false)] (by kernel_rfl) (by kernel_rfl) ?_
    simp only [Rg.pick, List.map_cons, List.map_nil, List.getD_cons_zero, List.getD_cons_succ]
    iterate 5 (refine Rg.ord_quiet (v := ?_) rfl (fun w' hS => ?_) ⟨c2, p0, p1, p2, p3⟩ ?_; rotate_left; (obtain ⟨t0, t1, t2, t3, t4⟩ := hS; go_simp; with_reducible rfl); simp only [Act.put, List.setIfInBounds_toArray, List.set_cons_succ, List.set_cons_zero])
    refine Rg.ord_loud rfl (fun K hK => ?_)
    go_simp
    refine HRt.out.mono ?_
    rintro y w6 ⟨rfl, hb6⟩
    have c2' := agr c2 hb6
    have p0' := agr p0 hb6
    have p1' := agr p1 hb6
    have p2' := agr p2 hb6
    have p3' := agr p3 hb6
    have HB6 := hide (HB.out.drew.trans (hb6.mono HB.out.size))
    have HR6 := hide (Row.below (w := w5.drew) HR.out hb6 HR.out.lt)
    have HI6 : Hid (OwT w6 w2.heap.size tI (.slice Ai N ci) ids) := hide (OwT.kept (w := w5.drew) HI5.out.drew hb6)
    have HC6 : Hid (OwC w6 w2.heap.size (.slice Ac M cc) chs) := hide (OwC.keep (w := w5.drew) HC5.out.drew hb6)
    refine hK _ _ (fun _ => ⟨c2', p0', p1', p2', p3'⟩) ?_
    clear hK K hb6 c2 p0 p1 p2 p3 HB HR HI5 HC5 HRt Hq5 HP5
    iterate 1 (refine Rg.ord_quiet (v := ?_) rfl (fun w' hS => ?_) ⟨c2', p0', p1', p2', p3'⟩ ?_; rotate_left; (obtain ⟨t0, t1, t2, t3, t4⟩ := hS; go_simp; with_reducible rfl); simp only [Act.put, List.setIfInBounds_toArray, List.set_cons_succ, List.set_cons_zero])
    refine Rg.ord_loud rfl (fun K hK => ?_)
    go_simp
    have hb7 : Below w6.heap.size w6 (w6.alloc (.cells #[.bool o6, .bool (!pr)] tB)) := (Below.refl _ w6).alloc (Nat.le_refl _) _
    refine hK _ _ (fun _ => ⟨agr c2' hb7, agr p0' hb7, agr p1' hb7, agr p2' hb7, agr p3' hb7⟩) ?_
    clear hK K
    refine Rg.ord_loud rfl (fun K hK => ?_)
    go_simp
    refine (wrong2_any _ _ w6).mono ?_
    rintro y w7 ⟨rfl, hb8⟩
    have HB := hide (HB6.out.trans (hb8.mono HB6.out.size))
    have HR := hide (HR6.out.below hb8 HR6.out.lt)
    have HI7 := hide (HI6.out.kept hb8)
    have HC7 := hide (HC6.out.keep hb8)
    have p0 := agr p0' hb8
    have p1 := agr p1' hb8
    have p2 := agr p2' hb8
    have p3 := agr p3' hb8
    refine hK _ _ (fun _ => ⟨agr c2' hb8, p0, p1, p2, p3⟩) ?_
    clear hK K hb7 hb8 c2' p0' p1' p2' p3' HB6 HR6 HI6 HC6
    refine Rg.ord_nil ?_
    have s0 := HR.out.cell 0
    have s1 := HR.out.cell 1
    have s2 := HR.out.cell 2
    have s3 := HR.out.cell 3
    have f0 := HR.out.free 0
    have f1 := HR.out.free 1
    have f2 := HR.out.free 2
    have f3 := HR.out.free 3
    simp only [z4, List.getElem?_cons_zero, List.getElem?_cons_succ] at s0 s1 s2 s3
    cases hz : (o6 || !pr) with
    | true =>
      have HD := hide (show D = (noPch, 3) by rw [HDD.out, hz]; rfl)
      clear hz HDD p0 p1 p2 p3
      go_wp2
      have hrf := (((HR.out.put 0 (.slice none 0 0)).put 1 (.string ⟨#[]⟩)).put 2 (.string ⟨#[]⟩)).put 3 (.slice none 0 0)
      exact bodyPost_ret (results_cr rfl _ _ R tP #[.slice none 0 0, .string ⟨#[]⟩, .string ⟨#[]⟩, .slice none 0 0] (0, 0) _ rfl hrf Tryd.underlying25 rfl sizePt) rfl ⟨_, _, by rw [HD.out]; rfl, by rw [HD.out]; exact OwT.nil _ _ _, by rw [HD.out]; exact OwC.nil _ _, HF.out _ _ _ (HF.out _ _ _ (HF.out _ _ _ (HF.out _ _ _ HB.out)))⟩
    | false =>
      have HD := hide (show D = (⟨ids, a, o, chs⟩, 0) by rw [HDD.out, hz]; rfl)
      clear hz HDD
      go_wp2
      have hrf := (((HR.out.put 0 (.slice Ai N ci)).put 1 (.string ⟨a.toArray⟩)).put 2 (.string ⟨o.toArray⟩)).put 3 (.slice Ac M cc)
      have hfin : ∀ (wz : World) (i : Nat) (u : Value), OwT wz w2.heap.size tI (.slice Ai N ci) ids ∧ OwC wz w2.heap.size (.slice Ac M cc) chs ∧ (∃ cs, Row wz R tP cs) →
          OwT (wz.setCell ⟨R, i, none⟩ u) w2.heap.size tI (.slice Ai N ci) ids ∧ OwC (wz.setCell ⟨R, i, none⟩ u) w2.heap.size (.slice Ac M cc) chs ∧ (∃ cs, Row (wz.setCell ⟨R, i, none⟩ u) R tP cs) := by
        rintro wz i u ⟨k1, k2, cs, k5⟩
        exact ⟨rw_put k1 (rw_ne k5 (by decide) k1) _, rw_put k2 (rw_ne k5 (by decide) k2) _, _, k5.put i u⟩
      have hf9 := hfin _ 3 (.slice Ac M cc) (hfin _ 2 (.string ⟨o.toArray⟩) (hfin _ 1 (.string ⟨a.toArray⟩) (hfin _ 0 (.slice Ai N ci) ⟨HI7.out, HC7.out, _, HR.out⟩)))
      exact bodyPost_ret (results_cr rfl _ _ R tP #[.slice Ai N ci, .string ⟨a.toArray⟩, .string ⟨o.toArray⟩, .slice Ac M cc] (0, 0) _ rfl hrf Tryd.underlying25 rfl sizePt) rfl ⟨_, _, by rw [HD.out]; rfl, by rw [HD.out]; exact rw_base hf9.1 Hs3.out, by rw [HD.out]; exact rw_base hf9.2.1 Hs3.out, HF.out _ _ _ (HF.out _ _ _ (HF.out _ _ _ (HF.out _ _ _ HB.out)))⟩
  · rw [if_pos hx0] at hd2
    have HD := hide hd2
    have hne : ((x : Int) != 0) = true := by rw [bne_iff_ne]; omega
    have s0 := HR.out.cell 0
    have s1 := HR.out.cell 1
    have s2 := HR.out.cell 2
    have s3 := HR.out.cell 3
    have f0 := HR.out.free 0
    have f1 := HR.out.free 1
    have f2 := HR.out.free 2
    have f3 := HR.out.free 3
    simp only [z4, List.getElem?_cons_zero, List.getElem?_cons_succ] at s0 s1 s2 s3
    clear hd2 hx0
    go_wp2
    have hrf := (((HR.out.put 0 (.slice none 0 0)).put 1 (.string ⟨#[]⟩)).put 2 (.string ⟨#[]⟩)).put 3 (.slice none 0 0)
    exact bodyPost_ret (results_cr rfl _ _ R tP #[.slice none 0 0, .string ⟨#[]⟩, .string ⟨#[]⟩, .slice none 0 0] (0, 0) _ rfl hrf Tryd.underlying25 rfl sizePt) rfl ⟨_, _, by rw [HD.out]; rfl, by rw [HD.out]; exact OwT.nil _ _ _, by rw [HD.out]; exact OwC.nil _ _, HF.out _ _ _ (HF.out _ _ _ (HF.out _ _ _ (HF.out _ _ _ HB.out)))⟩
end Go.Proofs.YtabgkfkjnpcbkaaDoor.Tr
