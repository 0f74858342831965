/-
  The reference of patches: the patch of a form.
-/
import Derived.BigQuiet
import Derived.Test.YtabgkfkjnpcbkaaDoorQB
import Derived.Test.YtabgkfkjnpcbkaaDoorPW
import Derived.Test.YtabgkfkjnpcbkaaDoorQRrC
namespace Go.Proofs.YtabgkfkjnpcbkaaDoor.Tr
open Go Go.RowKit Kt Lw Li Lx Df Wr

/-- the blocks of a read: the result, none, the reader, the patch -/
structure QS (W w : World) (R Z G P : Nat) (bs : Bs) (at_ e : Nat) (cs : List Value) : Prop where
  low : Below W.heap.size W w
  r : Row w R tP [.slice none 0 0, .string ⟨#[]⟩, .string ⟨#[]⟩, .slice none 0 0]
  z : Row w Z tP [.slice none 0 0, .string ⟨#[]⟩, .string ⟨#[]⟩, .slice none 0 0]
  p : Row w P tP cs
  rd : RR w W.heap.size G bs at_ e
  ne : R ≠ G ∧ Z ≠ G ∧ P ≠ G ∧ P ≠ R ∧ P ≠ Z ∧ W.heap.size ≤ R ∧ W.heap.size ≤ Z ∧ W.heap.size ≤ G ∧ W.heap.size ≤ P
section
variable {W w w' : World} {R Z G P at_ e : Nat} {bs : Bs} {cs : List Value}
theorem QS.turned (h : QS W w R Z G P bs at_ e cs) {at' e' : Nat} (hr : RR w' W.heap.size G bs at' e') (ho : Only (· = G) w w') : QS W w' R Z G P bs at' e' cs :=
  ⟨ho.below h.low h.low.size fun k hk e => by have := h.ne; omega, h.r.only ho h.ne.1, h.z.only ho h.ne.2.1, h.p.only ho h.ne.2.2.1, hr, h.ne⟩
theorem QS.keep (h : QS W w R Z G P bs at_ e cs) (hb : Below w.heap.size w w') : QS W w' R Z G P bs at_ e cs :=
  ⟨h.low.trans (hb.mono h.low.size), h.r.below hb h.r.lt, h.z.below hb h.z.lt, h.p.below hb h.p.lt, h.rd.below hb, h.ne⟩
theorem QS.fail (h : QS W w R Z G P bs at_ e cs) : w.cell? ⟨G, 2, none⟩ = some (.int .i64 (e : Int)) := by
  obtain ⟨A, c, hr, _⟩ := h.rd
  exact hr.cell 2
theorem QS.putP (h : QS W w R Z G P bs at_ e cs) (i : Nat) (u : Value) : QS W (w.setCell ⟨P, i, none⟩ u) R Z G P bs at_ e (cs.set i u) := by
  obtain ⟨n1, n2, n3, n4, n5, n6, n7, n8, n9⟩ := h.ne
  exact ⟨below_put h.low n9 _, row_off h.r (Ne.symm n4) _, row_off h.z (Ne.symm n5) _, h.p.put i u, h.rd.only ((Only.refl (· = P) w).put rfl u) (Ne.symm n3) (fun b hb e => by omega), h.ne⟩
theorem QS.grown {E : TypeId} {sz n : Nat} {v : Value} {xs : List Value} (h : QS W w R Z G P bs at_ e cs) (hg : w.grownBy w' v.ownBlock) (hw : w.ownsRow W.heap.size E sz v n xs) (hE : E ≠ tP) (hE2 : E ≠ 67) : QS W w' R Z G P bs at_ e cs := by
  have hn := fun (g : Nat) (cs : List Value) (hr : Row w g tP cs) => rw_ne hr (Ne.symm hE) hw g
  obtain ⟨A, c, hr, hs, hB, h1, h2⟩ := h.rd
  have hG := rw_ne hr (Ne.symm hE2) hw G
  refine ⟨h.low.grown hg h.low.size fun k hk => (World.ownsRow.lt hw k hk).1, h.r.grown hg fun e => hn _ _ h.r e.symm rfl, h.z.grown hg fun e => hn _ _ h.z e.symm rfl, h.p.grown hg fun e => hn _ _ h.p e.symm rfl, ?_, h.ne⟩
  exact ⟨A, c, hr.grown hg fun e => hG e.symm rfl, hs.move fun b hb hlt => hg.block b hlt fun e => by have := (World.ownsRow.lt hw b e.symm).1; omega, hB, h1, h2⟩
theorem QS.putO (h : QS W w R Z G P bs at_ e cs) {q : Nat} (hq : W.heap.size ≤ q ∧ R ≠ q ∧ Z ≠ q ∧ G ≠ q ∧ P ≠ q) (i : Nat) (u : Value) : QS W (w.setCell ⟨q, i, none⟩ u) R Z G P bs at_ e cs :=
  ⟨below_put h.low hq.1 _, row_off h.r hq.2.1 _, row_off h.z hq.2.2.1 _, row_off h.p hq.2.2.2.2 _, h.rd.only ((Only.refl (· = q) w).put rfl u) hq.2.2.2.1 (fun b hb e => by have := hq.1; omega), h.ne⟩
theorem QS.new (h : QS W w R Z G P bs at_ e cs) {q : Nat} (hq : w.heap.size ≤ q) : W.heap.size ≤ q ∧ R ≠ q ∧ Z ≠ q ∧ G ≠ q ∧ P ≠ q := by
  have h1 := h.r.lt
  have h2 := h.z.lt
  have h3 := h.p.lt
  have h4 := h.rd.lt
  have h5 := h.low.size
  exact ⟨by omega, by omega, by omega, by omega, by omega⟩
theorem QS.owned {E : TypeId} {sz n B : Nat} {v : Value} {xs : List Value} (h : QS W w R Z G P bs at_ e cs) (hw : w.ownsRow B E sz v n xs) (hE2 : 67 ≠ E) (ho : Only (· = G) w w') : w'.ownsRow B E sz v n xs := by
  obtain ⟨A, c, hr, _⟩ := h.rd
  exact rw_only hw ho (rw_ne hr hE2 hw)
end
theorem ids_bad {e : Nat} (he : e ≠ 0) : ∀ (n : Nat) (b : Bs), (rdIds n b e).2 = (b, e)
  | 0, _ => rfl
  | n + 1, b => by
    simp only [rdIds, step_bad he]
    exact ids_bad he n b
theorem chs_bad {e : Nat} (he : e ≠ 0) : ∀ (n : Nat) (b : Bs), (rdChs n b e).2 = (b, e)
  | 0, _ => rfl
  | n + 1, b => by
    simp only [rdChs, step_bad he, step_bad_num he]
    exact chs_bad he n b
set_option maxRecDepth 100000 in
set_option maxHeartbeats 3000000 in
theorem rdecode12_any (bs : Bs) (A : Option Addr) (c : Nat) (w : World) (hs : Sl w (fun _ => True) A c bs) (hl : bs.length ≤ 4000) :
    Calls Tryd.prog 20 #[.slice A bs.length c] w fun y w' => ∃ vi vc, y = .returned (.tuple #[.agg #[vi, .string ⟨(pdecode bs).1.author.toArray⟩, .string ⟨(pdecode bs).1.note.toArray⟩, vc], .int .i64 ((pdecode bs).2 : Nat)]) ∧
      OwT w' w.heap.size tI vi (pdecode bs).1.ids ∧ OwC w' w.heap.size vc (pdecode bs).1.chs ∧ Below w.heap.size w w' := by
  obtain ⟨N, hN⟩ : ∃ n, n = bs.length := ⟨_, rfl⟩
  obtain ⟨R, hR⟩ : ∃ R, R = w.heap.size := ⟨_, rfl⟩
  obtain ⟨wa, hwa⟩ : ∃ x, x = (w.alloc (.cells #[.slice none 0 0, .string ⟨#[]⟩, .string ⟨#[]⟩, .slice none 0 0] tP)).alloc (.cells #[.slice none 0 0, .string ⟨#[]⟩, .string ⟨#[]⟩, .slice none 0 0] tP) := ⟨_, rfl⟩
  obtain ⟨w1, hw1⟩ : ∃ x, x = (wa.alloc (.cells #[.slice A N c, .int .i64 0, .int .i64 0] 67)).alloc (.cells #[.slice none 0 0, .string ⟨#[]⟩, .string ⟨#[]⟩, .slice none 0 0] tP) := ⟨_, rfl⟩
  have hsa : wa.heap.size = R + 2 := by rw [hwa, hR]; simp
  have ha : Below w.heap.size w wa := by rw [hwa]; exact ((Below.refl _ w).alloc (Nat.le_refl _) _).alloc (by simp) _
  have hb1 : Below w.heap.size w w1 := by rw [hw1]; exact (ha.alloc ha.size _).alloc (by have := ha.size; simp; omega) _
  have ra : Row wa R tP [.slice none 0 0, .string ⟨#[]⟩, .string ⟨#[]⟩, .slice none 0 0] := by rw [hwa, hR]; exact (Row.fresh w _ _).alloc _
  have rb : Row wa (R + 1) tP [.slice none 0 0, .string ⟨#[]⟩, .string ⟨#[]⟩, .slice none 0 0] := by rw [hwa, hR]; exact Row.new _ _ (by simp) rfl
  have r1 : Row w1 R tP [.slice none 0 0, .string ⟨#[]⟩, .string ⟨#[]⟩, .slice none 0 0] := by rw [hw1]; exact (ra.alloc _).alloc _
  have r2 : Row w1 (R + 1) tP [.slice none 0 0, .string ⟨#[]⟩, .string ⟨#[]⟩, .slice none 0 0] := by rw [hw1]; exact (rb.alloc _).alloc _
  have r3 : Row w1 (R + 2) 67 [.slice A N c, .int .i64 0, .int .i64 0] := by rw [hw1, ← hsa]; exact (Row.fresh wa _ _).alloc _
  have r4 : Row w1 (R + 3) tP [.slice none 0 0, .string ⟨#[]⟩, .string ⟨#[]⟩, .slice none 0 0] := by rw [hw1]; exact Row.new _ _ (by simp [hsa]) rfl
  have hq1 : QS w w1 R (R + 1) (R + 1 + 1) (R + 1 + 1 + 1) bs 0 0 [.slice none 0 0, .string ⟨#[]⟩, .string ⟨#[]⟩, .slice none 0 0] :=
    ⟨hb1, r1, r2, r4, ⟨A, c, by rw [← hN]; exact r3, (hs.bound.move fun b _ hlt => hb1.block b hlt).imp fun b _ hb => hb.2, by omega, Nat.zero_le _, hl⟩, by omega⟩
  obtain ⟨Z, hZ⟩ : ∃ Z, Z = R + 1 := ⟨_, rfl⟩
  obtain ⟨G, hG⟩ : ∃ g, g = Z + 1 := ⟨_, rfl⟩
  obtain ⟨P, hP⟩ : ∃ p, p = G + 1 := ⟨_, rfl⟩
  rw [← hZ, ← hG, ← hP] at hq1
  have Q1 := hide hq1
  rw [hwa] at hw1
  have W1 := hide hw1
  have HR := hide hR
  have HZ := hide hZ
  have HG := hide hG
  have HP := hide hP
  have d0 : decide (131072 < (N : Int)) = false := decide_eq_false (by omega)
  have HL := hide hl
  have HN := hide hN
  rw [← hN]
  clear hs hl hN hR hwa hw1 hsa ha hb1 ra rb r1 r2 r3 r4 hq1 hZ hG hP
  go_enter Tryd.func20, Tryd.ntmps20
  go_wp2_with fail
  rw [← W1.out, ← HR.out, ← HZ.out, ← HG.out, ← HP.out]
  refine (rread_num Q1.out.rd).mono ?_
  rintro y w2 ⟨n0, at1, e1, rfl, hr2, hst1, ho2⟩
  rw [List.drop_zero] at hst1
  have Q2 := hide (Q1.out.turned hr2 ho2)
  have HST := hide hst1
  clear hst1 hr2 ho2 Q1 d0 W1 HR HZ HG HP
  by_cases h16 : 16 < n0
  · have d1 : decide (16 < (n0 : Int)) = true := decide_eq_true (by omega)
    have HD := hide (show pdecode bs = (noPch, 4) from by
      have hst := HST.out
      unfold pdecode
      rw [if_neg (by have := HL.out; omega), hst]
      simp only []
      rw [if_pos h16])
    have z0 := Q2.out.z.cell 0
    have z1 := Q2.out.z.cell 1
    have z2 := Q2.out.z.cell 2
    have z3 := Q2.out.z.cell 3
    have s0 := Q2.out.r.cell 0
    have s1 := Q2.out.r.cell 1
    have s2 := Q2.out.r.cell 2
    have s3 := Q2.out.r.cell 3
    have f0 := Q2.out.r.free 0
    have f1 := Q2.out.r.free 1
    have f2 := Q2.out.r.free 2
    have f3 := Q2.out.r.free 3
    have hr0 := Q2.out.ne.2.2.2.2.2.1
    simp only [List.getElem?_cons_zero, List.getElem?_cons_succ] at z0 z1 z2 z3 s0 s1 s2 s3
    have HR0 := hide hr0
    clear hr0 HST
    go_wp2
    have hrf := (((Q2.out.r.put 0 (.slice none 0 0)).put 1 (.string ⟨#[]⟩)).put 2 (.string ⟨#[]⟩)).put 3 (.slice none 0 0)
    exact bodyPost_ret (results_cr rfl _ _ R tP #[.slice none 0 0, .string ⟨#[]⟩, .string ⟨#[]⟩, .slice none 0 0] (0, 0) _ rfl hrf Tryd.underlying25 rfl sizePt) rfl ⟨_, _, by rw [HD.out]; rfl, by rw [HD.out]; exact OwT.nil _ _ _, by rw [HD.out]; exact OwC.nil _ _, below_put (below_put (below_put (below_put Q2.out.low HR0.out _) HR0.out _) HR0.out _) HR0.out _⟩
  · have d1 : decide (16 < (n0 : Int)) = false := decide_eq_false (by omega)
    have HN16 := hide (show n0 ≤ 16 by omega)
    have hn16 : n0 ≤ 16 := by omega
    clear h16
    go_wp2
    clear d1
    go_loopw [8] (fun i wr => ∃ (k : Nat) (vi : Value) (L : List Bs) (at_ e : Nat), k ≤ n0 ∧ i = .int .i64 k ∧ OwT wr w.heap.size tI vi L ∧ Hid (L.length = k) ∧ QS w wr R Z G P bs at_ e [vi, .string ⟨#[]⟩, .string ⟨#[]⟩, .slice none 0 0] ∧ Hid (rdIds n0 (bs.drop at1) e1 = (L ++ (rdIds (n0 - k) (bs.drop at_) e).1, (rdIds (n0 - k) (bs.drop at_) e).2))) (fun i _ => n0 - (intOf i).toNat)
    case atStart => exact ⟨0, _, [], at1, e1, Nat.zero_le _, rfl, OwT.nil _ _ _, by show Hid _; exact hide rfl, Q2.out, by show Hid _; exact hide (by rw [List.nil_append, Nat.sub_zero])⟩
    case round =>
      obtain ⟨k, vi, L, at2, e2, hk, rfl, hown, HLk, hq, HF⟩ := hrel
      have Hown := hide hown
      have Q3 := hide hq
      clear hown hq Q2
      by_cases hlt : k < n0
      · by_cases he : e2 = 0
        · subst he
          have cf := Q3.out.fail
          go_wp2_with fail
          refine (rread_text 32 Q3.out.rd (by omega)).mono ?_
          rintro y w4 ⟨v4, at3, e3, rfl, hv4, hr4, hst4, ho4⟩
          obtain ⟨t, ht⟩ : ∃ t, t = (stepText (bs.drop at2) 0 32).1 := ⟨_, rfl⟩
          rw [← ht] at hv4
          have HFn := hide (show rdIds n0 (bs.drop at1) e1 = ((L ++ [t]) ++ (rdIds (n0 - (k + 1)) (bs.drop at3) e3).1, (rdIds (n0 - (k + 1)) (bs.drop at3) e3).2) by
            rw [HF.out, show n0 - k = (n0 - (k + 1)) + 1 by omega, rdIds]
            simp only [hst4, ← ht]
            rw [List.append_assoc]; rfl)
          have hq4 := Q3.out.turned hr4 ho4
          have hown4 : OwT w4 w.heap.size tI vi L := Q3.out.owned Hown.out (by decide) ho4
          have hc4 := hv4.text 28 tI 5 Tryd.underlying28 Tryd.underlying5 Tryd.underlying33
          obtain ⟨A4, c4, rfl, _⟩ := hv4.sl
          have cp : w4.cell? ⟨P, 0, none⟩ = some vi := hq4.p.cell 0
          obtain ⟨q5, hq5⟩ : ∃ x, x = w4.heap.size := ⟨_, rfl⟩
          obtain ⟨w5, hw5⟩ : ∃ z, z = w4.alloc (.cells #[.string ⟨t.toArray⟩] tI) := ⟨_, rfl⟩
          have hx := Vs.one w4 tI t
          rw [← hw5, ← hq5] at hx
          have b5 : Below w4.heap.size w4 w5 := by rw [hw5]; exact (Below.refl _ w4).alloc (Nat.le_refl _) _
          have HX := hide hx
          have Hown5 := hide (show OwT w5 w.heap.size tI vi L from OwT.kept hown4 b5)
          have Q5 := hide (hq4.keep b5)
          have W5 := hide hw5
          have HQ5 := hide hq5
          obtain ⟨nt, hnt⟩ : ∃ x, x = t.length := ⟨_, rfl⟩
          clear hx b5 hw5 hq5 hown4 hq4 hr4 hst4 ho4 hv4 ht Hown Q3 HF cf
          go_wp2_with (first | rw [← W5.out, ← HQ5.out] | (at_builtin; go_loud (refine wpList_catT rfl (.tmp 46) (.tmp 49) 22 rfl Tryd.underlying22 infoId w.heap.size w vi L [t] _ _ 1 rfl rfl Hown5.out HX.out (by rw [HLk.out]; have := HN16.out; simp; omega) Q5.out.low Q5.out.low.size ?_; intro v6 w6 hown6 hb6 hg6; obtain ⟨A6, c6, e6, _⟩ := hown6.vs; obtain ⟨n6, hn6⟩ : ∃ x, x = (L ++ [t]).length := ⟨_, rfl⟩; rw [← hn6] at e6; subst e6; have hq6 := Q5.out.grown hg6 Hown5.out (by decide) (by decide); have cp6 : w6.cell? ⟨P, 0, none⟩ = some vi := hq6.p.cell 0; have fp6 := hq6.p.free 0; have HO6 := hide hown6; have Q6 := hide hq6; clear hg6 hown6 hb6 hq6 hn6)) | fail)
          have hown7 : OwT (w6.setCell ⟨P, 0, none⟩ (.slice A6 n6 c6)) w.heap.size tI (.slice A6 n6 c6) (L ++ [t]) := rw_put HO6.out (rw_ne Q6.out.p (by decide) HO6.out) _
          have HLn : Hid ((L ++ [t]).length = k + 1) := hide (by rw [List.length_append, HLk.out]; rfl)
          exact ⟨⟨k + 1, _, L ++ [t], at3, e3, by omega, by go_num, hown7, HLn, Q6.out.putP 0 _, HFn⟩, by simp [intOf]; omega⟩
        · have HI := hide (show rdIds n0 (bs.drop at1) e1 = (L ++ (rdIds (n0 - k) (bs.drop at2) e2).1, bs.drop at2, e2) from by rw [HF.out, ids_bad he])
          have HIL := hide (show e2 = 0 → L ++ (rdIds (n0 - k) (bs.drop at2) e2).1 = L from fun h => absurd h he)
          generalize L ++ (rdIds (n0 - k) (bs.drop at2) e2).1 = ids at HI HIL
          have hz1 : ((e2 : Int) == 0) = false := by rw [beq_eq_false_iff_ne]; omega
          have hz2 : decide ((e2 : Int) = 0) = false := decide_eq_false (by omega)
          have cf := Q3.out.fail
          have HLs := hide (show L.length ≤ 16 by rw [HLk.out]; omega)
          clear HF HLk
          go_wp2_with fail
          clear hz1 hz2 cf
          refine (rread_text 100 Q3.out.rd (by omega)).mono ?_
          rintro y w4 ⟨v4, at3, e3, rfl, hv, hr, hst, ho⟩
          obtain ⟨a, ha⟩ : ∃ t, t = (stepText (bs.drop at2) e2 100).1 := ⟨_, rfl⟩
          rw [← ha] at hv
          have HT4 := hide (show stepText (bs.drop at2) e2 100 = (a, bs.drop at3, e3) from Prod.ext ha.symm hst)
          have hq := Q3.out.turned hr ho
          have hown : OwT w4 w.heap.size tI vi L := Q3.out.owned Hown.out (by decide) ho
          have hc := hv.text 28 9 5 Tryd.underlying28 Tryd.underlying5 Tryd.underlying9
          obtain ⟨A4, c4, rfl, _⟩ := hv.sl
          obtain ⟨nt4, hnt⟩ : ∃ z, z = a.length := ⟨_, rfl⟩
          rw [← hnt] at hc ⊢
          have cp := hq.p.cell 1
          have fp := hq.p.free 1
          simp only [List.getElem?_cons_zero, List.getElem?_cons_succ] at cp
          obtain ⟨w5, hw5⟩ : ∃ z, z = w4.setCell ⟨P, 1, none⟩ (.string ⟨a.toArray⟩) := ⟨_, rfl⟩
          have Q5 := hide (show QS w w5 R Z G P bs at3 e3 [vi, .string ⟨a.toArray⟩, .string ⟨#[]⟩, .slice none 0 0] from by rw [hw5]; exact hq.putP 1 _)
          have Hown5 := hide (show OwT w5 w.heap.size tI vi L from by rw [hw5]; exact rw_put hown (rw_ne hq.p (by decide) hown) _)
          have W5 := hide hw5
          clear hv hr hst ho ha hq hown hnt hw5 Q3 Hown
          go_wp2_with (first | rw [← W5.out] | fail)
          clear hc cp fp W5
          refine (rread_text 1000 Q5.out.rd (by omega)).mono ?_
          rintro y w6 ⟨v6, at4, e4, rfl, hv, hr, hst, ho⟩
          obtain ⟨o, ha⟩ : ∃ t, t = (stepText (bs.drop at3) e3 1000).1 := ⟨_, rfl⟩
          rw [← ha] at hv
          have HT6 := hide (show stepText (bs.drop at3) e3 1000 = (o, bs.drop at4, e4) from Prod.ext ha.symm hst)
          have hq := Q5.out.turned hr ho
          have hown : OwT w6 w.heap.size tI vi L := Q5.out.owned Hown5.out (by decide) ho
          have hc := hv.text 28 9 5 Tryd.underlying28 Tryd.underlying5 Tryd.underlying9
          obtain ⟨A6, c6, rfl, _⟩ := hv.sl
          obtain ⟨nt6, hnt⟩ : ∃ z, z = o.length := ⟨_, rfl⟩
          rw [← hnt] at hc ⊢
          have cp := hq.p.cell 2
          have fp := hq.p.free 2
          simp only [List.getElem?_cons_zero, List.getElem?_cons_succ] at cp
          obtain ⟨w7, hw7⟩ : ∃ z, z = w6.setCell ⟨P, 2, none⟩ (.string ⟨o.toArray⟩) := ⟨_, rfl⟩
          have Q7 := hide (show QS w w7 R Z G P bs at4 e4 [vi, .string ⟨a.toArray⟩, .string ⟨o.toArray⟩, .slice none 0 0] from by rw [hw7]; exact hq.putP 2 _)
          have Hown7 := hide (show OwT w7 w.heap.size tI vi L from by rw [hw7]; exact rw_put hown (rw_ne hq.p (by decide) hown) _)
          have W7 := hide hw7
          clear hv hr hst ho ha hq hown hnt hw7 Q5 Hown5
          go_wp2_with (first | rw [← W7.out] | fail)
          clear hc cp fp W7
          refine (rread_num Q7.out.rd).mono ?_
          rintro y w8 ⟨m0, at5, e5, rfl, hr, hst, ho⟩
          have HNm := hide hst
          have Q8 := hide (Q7.out.turned hr ho)
          have Hown8 := hide (show OwT w8 w.heap.size tI vi L from Q7.out.owned Hown7.out (by decide) ho)
          clear hr hst ho Q7 Hown7
          by_cases h100 : 100 < m0
          · have d1 : decide (100 < (m0 : Int)) = true := decide_eq_true (by omega)
            have HD := hide (show pdecode bs = (noPch, 4) from by
              rw [pdecode_rd HST.out (n := n0) (by rw [if_neg (by have := HN16.out; omega)]) HI.out HT4.out HT6.out HNm.out (m := 0) (by rw [if_pos h100]) (show rdChs 0 (bs.drop at5) e5 = (([], false), bs.drop at5, e5) from rfl) (by have := HL.out; omega)]
              rw [decide_eq_true h100, Bool.or_true, if_pos rfl])
            have z0 := Q8.out.z.cell 0
            have z1 := Q8.out.z.cell 1
            have z2 := Q8.out.z.cell 2
            have z3 := Q8.out.z.cell 3
            have s0 := Q8.out.r.cell 0
            have s1 := Q8.out.r.cell 1
            have s2 := Q8.out.r.cell 2
            have s3 := Q8.out.r.cell 3
            have f0 := Q8.out.r.free 0
            have f1 := Q8.out.r.free 1
            have f2 := Q8.out.r.free 2
            have f3 := Q8.out.r.free 3
            have hr0 := Q8.out.ne.2.2.2.2.2.1
            simp only [List.getElem?_cons_zero, List.getElem?_cons_succ] at z0 z1 z2 z3 s0 s1 s2 s3
            have HR0 := hide hr0
            clear hr0 HST HI HIL HT4 HT6 HNm
            go_wp2
            have hrf := (((Q8.out.r.put 0 (.slice none 0 0)).put 1 (.string ⟨#[]⟩)).put 2 (.string ⟨#[]⟩)).put 3 (.slice none 0 0)
            exact bodyPost_ret (results_cr rfl _ _ R tP #[.slice none 0 0, .string ⟨#[]⟩, .string ⟨#[]⟩, .slice none 0 0] (0, 0) _ rfl hrf Tryd.underlying25 rfl sizePt) rfl ⟨_, _, by rw [HD.out]; rfl, by rw [HD.out]; exact OwT.nil _ _ _, by rw [HD.out]; exact OwC.nil _ _, below_put (below_put (below_put (below_put Q8.out.low HR0.out _) HR0.out _) HR0.out _) HR0.out _⟩
          · have d1 : decide (100 < (m0 : Int)) = false := decide_eq_false (by omega)
            have HM := hide (show m0 ≤ 100 by omega)
            have hm100 : m0 ≤ 100 := by omega
            clear h100
            go_wp2
            clear d1
            go_loopw [10, 11] (fun od i wr => ∃ (j : Nat) (vc : Value) (C : List Ch) (b : Bool) (at_ e : Nat), j ≤ m0 ∧ od = .bool b ∧ i = .int .i64 j ∧ OwT wr w.heap.size tI vi L ∧ OwC wr w.heap.size vc C ∧ Hid (C.length = j) ∧ QS w wr R Z G P bs at_ e [vi, .string ⟨a.toArray⟩, .string ⟨o.toArray⟩, vc] ∧ Hid (rdChs m0 (bs.drop at5) e5 = ((C ++ (rdChs (m0 - j) (bs.drop at_) e).1.1, b || (rdChs (m0 - j) (bs.drop at_) e).1.2), (rdChs (m0 - j) (bs.drop at_) e).2))) (fun _ i _ => m0 - (intOf i).toNat)
            case atStart => exact ⟨0, _, [], false, at5, e5, Nat.zero_le _, rfl, rfl, Hown8.out, OwC.nil _ _, by show Hid _; exact hide rfl, Q8.out, by show Hid _; exact hide (by rw [List.nil_append, Nat.sub_zero, Bool.false_or])⟩
            case round =>
              obtain ⟨j, vc, C, b, at9, e9, hj, rfl, rfl, hown, hoc, HLc, hq, HF⟩ := hrel
              have Hown9 := hide hown
              have Hoc9 := hide hoc
              have Q9 := hide hq
              clear hown hoc hq Q8 Hown8
              by_cases hlt : j < m0
              · by_cases he9 : e9 = 0
                · subst he9
                  have cf := Q9.out.fail
                  obtain ⟨q, hqq⟩ : ∃ x, x = wr.heap.size := ⟨_, rfl⟩
                  obtain ⟨w10, hw10⟩ : ∃ z, z = wr.alloc (.cells #[.string ⟨#[]⟩, .bool false, .string ⟨#[]⟩] tC) := ⟨_, rfl⟩
                  have hr10 := Row.fresh wr tC #[.string ⟨#[]⟩, .bool false, .string ⟨#[]⟩]
                  rw [← hw10, ← hqq] at hr10
                  have b10 : Below wr.heap.size wr w10 := by rw [hw10]; exact (Below.refl _ wr).alloc (Nat.le_refl _) _
                  have HN := hide (Q9.out.new (q := q) (by rw [hqq]; exact Nat.le_refl _))
                  have Hv := hide (show ∀ x, vc.ownBlock = some x → x ≠ q from fun x hx e => by have := (World.ownsRow.lt Hoc9.out x hx).2; omega)
                  have Q10 := hide (Q9.out.keep b10)
                  have R10 := hide hr10
                  have Hown10 := hide (show OwT w10 w.heap.size tI vi L from OwT.kept Hown9.out b10)
                  have Hoc10 := hide (show OwC w10 w.heap.size vc C from OwC.keep Hoc9.out b10)
                  have W10 := hide hw10
                  have HQ10 := hide hqq
                  clear hr10 b10 hw10 hqq Q9 Hown9 Hoc9
                  go_wp2_with fail
                  rw [← W10.out, ← HQ10.out]
                  clear cf W10 HQ10
                  refine (rread_text 200 Q10.out.rd (by omega)).mono ?_
                  rintro y w11 ⟨v11, at10, e10, rfl, hv, hr, hst, ho⟩
                  obtain ⟨p, ha⟩ : ∃ t, t = (stepText (bs.drop at9) 0 200).1 := ⟨_, rfl⟩
                  rw [← ha] at hv
                  have HS10 := hide (show stepText (bs.drop at9) 0 200 = (p, bs.drop at10, e10) from Prod.ext ha.symm hst)
                  have hq := Q10.out.turned hr ho
                  have hrq := R10.out.only ho (Ne.symm HN.out.2.2.2.1)
                  have hown : OwT w11 w.heap.size tI vi L := Q10.out.owned Hown10.out (by decide) ho
                  have hoc : OwC w11 w.heap.size vc C := Q10.out.owned Hoc10.out (by decide) ho
                  have hc := hv.text 28 9 5 Tryd.underlying28 Tryd.underlying5 Tryd.underlying9
                  obtain ⟨A11, c11, rfl, _⟩ := hv.sl
                  obtain ⟨nt11, hnt⟩ : ∃ z, z = p.length := ⟨_, rfl⟩
                  rw [← hnt] at hc ⊢
                  have cp := hrq.cell 0
                  have fp := hrq.free 0
                  simp only [List.getElem?_cons_zero] at cp
                  obtain ⟨w12, hwn⟩ : ∃ z, z = w11.setCell ⟨q, 0, none⟩ (.string ⟨p.toArray⟩) := ⟨_, rfl⟩
                  have Q12 := hide (hq.putO HN.out 0 (.string ⟨p.toArray⟩))
                  have R12 := hide (hrq.put 0 (.string ⟨p.toArray⟩))
                  have Hown12 := hide (show OwT (w11.setCell ⟨q, 0, none⟩ (.string ⟨p.toArray⟩)) w.heap.size tI vi L from rw_put hown (rw_ne hrq (by decide) hown) _)
                  have Hoc12 := hide (show OwC (w11.setCell ⟨q, 0, none⟩ (.string ⟨p.toArray⟩)) w.heap.size vc C from rw_put hoc Hv.out _)
                  rw [← hwn] at Q12 R12 Hown12 Hoc12
                  have W12 := hide hwn
                  clear hv hr hst ho ha hq hrq hown hoc hnt hwn Q10 R10 Hown10 Hoc10
                  go_wp2_with (first | rw [← W12.out] | fail)
                  clear hc cp fp W12
                  refine (rread_num Q12.out.rd).mono ?_
                  rintro y w13 ⟨g, at11, e11, rfl, hr, hst, ho⟩
                  have HS12 := hide hst
                  have hq := Q12.out.turned hr ho
                  have hrq := R12.out.only ho (Ne.symm HN.out.2.2.2.1)
                  have hown : OwT w13 w.heap.size tI vi L := Q12.out.owned Hown12.out (by decide) ho
                  have hoc : OwC w13 w.heap.size vc C := Q12.out.owned Hoc12.out (by decide) ho
                  obtain ⟨gb, hgb⟩ : ∃ x, x = decide (g = 1) := ⟨_, rfl⟩
                  obtain ⟨og, hog⟩ : ∃ x, x = decide (1 < g) := ⟨_, rfl⟩
                  have g1 : ((g : Int) == 1) = gb := by rw [hgb, Bool.eq_iff_iff, beq_iff_eq, decide_eq_true_eq]; omega
                  have g2 : decide ((g : Int) = 1) = gb := by rw [hgb, decide_eq_decide]; omega
                  have g3 : decide (1 < (g : Int)) = og := by rw [hog, decide_eq_decide]; omega
                  have HGB := hide hgb
                  have HOG := hide hog
                  clear hgb hog
                  have cp := hrq.cell 1
                  have fp := hrq.free 1
                  simp only [List.getElem?_cons_zero, List.getElem?_cons_succ, List.set_cons_zero] at cp
                  obtain ⟨w14, hwn⟩ : ∃ z, z = w13.setCell ⟨q, 1, none⟩ (.bool gb) := ⟨_, rfl⟩
                  have Q14 := hide (hq.putO HN.out 1 (.bool gb))
                  have R14 := hide (hrq.put 1 (.bool gb))
                  have Hown14 := hide (show OwT (w13.setCell ⟨q, 1, none⟩ (.bool gb)) w.heap.size tI vi L from rw_put hown (rw_ne hrq (by decide) hown) _)
                  have Hoc14 := hide (show OwC (w13.setCell ⟨q, 1, none⟩ (.bool gb)) w.heap.size vc C from rw_put hoc Hv.out _)
                  rw [← hwn] at Q14 R14 Hown14 Hoc14
                  have W14 := hide hwn
                  clear hr hst ho hq hrq hown hoc hwn Q12 R12 Hown12 Hoc12
                  cases b with
                  | true =>
                    go_wp2_with (first | rw [← W14.out] | fail)
                    clear cp fp W14 g1 g2 g3
                    refine (rread_text 65536 Q14.out.rd (by omega)).mono ?_
                    rintro y w15 ⟨v15, at12, e12, rfl, hv, hr, hst, ho⟩
                    obtain ⟨x, ha⟩ : ∃ t, t = (stepText (bs.drop at11) e11 65536).1 := ⟨_, rfl⟩
                    rw [← ha] at hv
                    have HS14 := hide (show stepText (bs.drop at11) e11 65536 = (x, bs.drop at12, e12) from Prod.ext ha.symm hst)
                    have hq := Q14.out.turned hr ho
                    have hrq := R14.out.only ho (Ne.symm HN.out.2.2.2.1)
                    have hown : OwT w15 w.heap.size tI vi L := Q14.out.owned Hown14.out (by decide) ho
                    have hoc : OwC w15 w.heap.size vc C := Q14.out.owned Hoc14.out (by decide) ho
                    have hc := hv.text 28 9 5 Tryd.underlying28 Tryd.underlying5 Tryd.underlying9
                    obtain ⟨A15, c15, rfl, _⟩ := hv.sl
                    obtain ⟨nt15, hnt⟩ : ∃ z, z = x.length := ⟨_, rfl⟩
                    rw [← hnt] at hc ⊢
                    have cp := hrq.cell 2
                    have fp := hrq.free 2
                    simp only [List.getElem?_cons_zero, List.getElem?_cons_succ, List.set_cons_zero, List.set_cons_succ] at cp
                    obtain ⟨w16, hwn⟩ : ∃ z, z = w15.setCell ⟨q, 2, none⟩ (.string ⟨x.toArray⟩) := ⟨_, rfl⟩
                    have Q16 := hide (hq.putO HN.out 2 (.string ⟨x.toArray⟩))
                    have R16 := hide (hrq.put 2 (.string ⟨x.toArray⟩))
                    have Hown16 := hide (show OwT (w15.setCell ⟨q, 2, none⟩ (.string ⟨x.toArray⟩)) w.heap.size tI vi L from rw_put hown (rw_ne hrq (by decide) hown) _)
                    have Hoc16 := hide (show OwC (w15.setCell ⟨q, 2, none⟩ (.string ⟨x.toArray⟩)) w.heap.size vc C from rw_put hoc Hv.out _)
                    rw [← hwn] at Q16 R16 Hown16 Hoc16
                    have W16 := hide hwn
                    clear hv hr hst ho ha hq hrq hown hoc hnt hwn Q14 R14 Hown14 Hoc14
                    have HFn := hide (show rdChs m0 (bs.drop at5) e5 = (((C ++ [⟨p, gb, x⟩]) ++ (rdChs (m0 - (j + 1)) (bs.drop at12) e12).1.1, true || (rdChs (m0 - (j + 1)) (bs.drop at12) e12).1.2), (rdChs (m0 - (j + 1)) (bs.drop at12) e12).2) by
                      rw [HF.out, show m0 - j = (m0 - (j + 1)) + 1 by omega, rdChs]
                      simp only [HS10.out, HS12.out, HS14.out, ← HGB.out, ← HOG.out]
                      rw [List.append_assoc]
                      simp)
                    have HLn : Hid ((C ++ [(⟨p, gb, x⟩ : Ch)]).length = j + 1) := hide (by rw [List.length_append, HLc.out]; rfl)
                    have k3 := Q16.out.p.cell 3
                    have t0 := R16.out.cell 0
                    have t1 := R16.out.cell 1
                    have t2 := R16.out.cell 2
                    simp only [List.getElem?_cons_zero, List.getElem?_cons_succ, List.set_cons_zero, List.set_cons_succ] at k3 t0 t1 t2
                    clear HF HS10 HS12 HS14 HGB HOG R16
                    go_wp2_with (first | rw [← W16.out] | (at_builtin; go_loud (refine wpList_pushC (W := w16) rfl (.tmp 98) (.tmp 100) rfl w.heap.size w vc C ⟨p, gb, x⟩ _ rfl rfl rfl Hoc16.out (by rw [HLc.out]; omega) Q16.out.low Q16.out.low.size ?_; intro v17 w17 hoc17 hb17 hg17; obtain ⟨A17, c17, e17, _⟩ := hoc17.fls; obtain ⟨n17, hn17⟩ : ∃ z, z = (C ++ [(⟨p, gb, x⟩ : Ch)]).length := ⟨_, rfl⟩; rw [← hn17] at e17; subst e17; have hq17 := Q16.out.grown hg17 Hoc16.out (by decide) (by decide); have hown17 : OwT w17 w.heap.size tI vi L := rw_grown Hown16.out hg17 (fun y hy e => by rcases rw_two Hoc16.out Hown16.out (by decide) with h | h; (rw [h] at hy; cases hy); exact h (hy.trans e)); have cp17 := hq17.p.cell 3; have fp17 := hq17.p.free 3; simp only [List.getElem?_cons_zero, List.getElem?_cons_succ] at cp17; have Q17 := hide hq17; have Hown17 := hide hown17; have Hoc17 := hide hoc17; clear hq17 hown17 hoc17 hb17 hg17 hn17 k3 t0 t1 t2)) | fail)
                    have hown18 : OwT (w17.setCell ⟨P, 3, none⟩ (.slice A17 n17 c17)) w.heap.size tI vi L := rw_put Hown17.out (rw_ne Q17.out.p (by decide) Hown17.out) _
                    have hoc18 : OwC (w17.setCell ⟨P, 3, none⟩ (.slice A17 n17 c17)) w.heap.size (.slice A17 n17 c17) (C ++ [⟨p, gb, x⟩]) := rw_put Hoc17.out (rw_ne Q17.out.p (by decide) Hoc17.out) _
                    exact ⟨⟨j + 1, _, C ++ [⟨p, gb, x⟩], true, at12, e12, by omega, rfl, by go_num, hown18, hoc18, HLn, Q17.out.putP 3 _, HFn⟩, by simp [intOf]; omega⟩
                  | false =>
                    go_wp2_with (first | rw [← W14.out] | fail)
                    clear cp fp W14 g1 g2 g3
                    refine (rread_text 65536 Q14.out.rd (by omega)).mono ?_
                    rintro y w15 ⟨v15, at12, e12, rfl, hv, hr, hst, ho⟩
                    obtain ⟨x, ha⟩ : ∃ t, t = (stepText (bs.drop at11) e11 65536).1 := ⟨_, rfl⟩
                    rw [← ha] at hv
                    have HS14 := hide (show stepText (bs.drop at11) e11 65536 = (x, bs.drop at12, e12) from Prod.ext ha.symm hst)
                    have hq := Q14.out.turned hr ho
                    have hrq := R14.out.only ho (Ne.symm HN.out.2.2.2.1)
                    have hown : OwT w15 w.heap.size tI vi L := Q14.out.owned Hown14.out (by decide) ho
                    have hoc : OwC w15 w.heap.size vc C := Q14.out.owned Hoc14.out (by decide) ho
                    have hc := hv.text 28 9 5 Tryd.underlying28 Tryd.underlying5 Tryd.underlying9
                    obtain ⟨A15, c15, rfl, _⟩ := hv.sl
                    obtain ⟨nt15, hnt⟩ : ∃ z, z = x.length := ⟨_, rfl⟩
                    rw [← hnt] at hc ⊢
                    have cp := hrq.cell 2
                    have fp := hrq.free 2
                    simp only [List.getElem?_cons_zero, List.getElem?_cons_succ, List.set_cons_zero, List.set_cons_succ] at cp
                    obtain ⟨w16, hwn⟩ : ∃ z, z = w15.setCell ⟨q, 2, none⟩ (.string ⟨x.toArray⟩) := ⟨_, rfl⟩
                    have Q16 := hide (hq.putO HN.out 2 (.string ⟨x.toArray⟩))
                    have R16 := hide (hrq.put 2 (.string ⟨x.toArray⟩))
                    have Hown16 := hide (show OwT (w15.setCell ⟨q, 2, none⟩ (.string ⟨x.toArray⟩)) w.heap.size tI vi L from rw_put hown (rw_ne hrq (by decide) hown) _)
                    have Hoc16 := hide (show OwC (w15.setCell ⟨q, 2, none⟩ (.string ⟨x.toArray⟩)) w.heap.size vc C from rw_put hoc Hv.out _)
                    rw [← hwn] at Q16 R16 Hown16 Hoc16
                    have W16 := hide hwn
                    clear hv hr hst ho ha hq hrq hown hoc hnt hwn Q14 R14 Hown14 Hoc14
                    have HFn := hide (show rdChs m0 (bs.drop at5) e5 = (((C ++ [⟨p, gb, x⟩]) ++ (rdChs (m0 - (j + 1)) (bs.drop at12) e12).1.1, og || (rdChs (m0 - (j + 1)) (bs.drop at12) e12).1.2), (rdChs (m0 - (j + 1)) (bs.drop at12) e12).2) by
                      rw [HF.out, show m0 - j = (m0 - (j + 1)) + 1 by omega, rdChs]
                      simp only [HS10.out, HS12.out, HS14.out, ← HGB.out, ← HOG.out]
                      rw [List.append_assoc]
                      simp)
                    have HLn : Hid ((C ++ [(⟨p, gb, x⟩ : Ch)]).length = j + 1) := hide (by rw [List.length_append, HLc.out]; rfl)
                    have k3 := Q16.out.p.cell 3
                    have t0 := R16.out.cell 0
                    have t1 := R16.out.cell 1
                    have t2 := R16.out.cell 2
                    simp only [List.getElem?_cons_zero, List.getElem?_cons_succ, List.set_cons_zero, List.set_cons_succ] at k3 t0 t1 t2
                    clear HF HS10 HS12 HS14 HGB HOG R16
                    go_wp2_with (first | rw [← W16.out] | (at_builtin; go_loud (refine wpList_pushC (W := w16) rfl (.tmp 98) (.tmp 100) rfl w.heap.size w vc C ⟨p, gb, x⟩ _ rfl rfl rfl Hoc16.out (by rw [HLc.out]; omega) Q16.out.low Q16.out.low.size ?_; intro v17 w17 hoc17 hb17 hg17; obtain ⟨A17, c17, e17, _⟩ := hoc17.fls; obtain ⟨n17, hn17⟩ : ∃ z, z = (C ++ [(⟨p, gb, x⟩ : Ch)]).length := ⟨_, rfl⟩; rw [← hn17] at e17; subst e17; have hq17 := Q16.out.grown hg17 Hoc16.out (by decide) (by decide); have hown17 : OwT w17 w.heap.size tI vi L := rw_grown Hown16.out hg17 (fun y hy e => by rcases rw_two Hoc16.out Hown16.out (by decide) with h | h; (rw [h] at hy; cases hy); exact h (hy.trans e)); have cp17 := hq17.p.cell 3; have fp17 := hq17.p.free 3; simp only [List.getElem?_cons_zero, List.getElem?_cons_succ] at cp17; have Q17 := hide hq17; have Hown17 := hide hown17; have Hoc17 := hide hoc17; clear hq17 hown17 hoc17 hb17 hg17 hn17 k3 t0 t1 t2)) | fail)
                    have hown18 : OwT (w17.setCell ⟨P, 3, none⟩ (.slice A17 n17 c17)) w.heap.size tI vi L := rw_put Hown17.out (rw_ne Q17.out.p (by decide) Hown17.out) _
                    have hoc18 : OwC (w17.setCell ⟨P, 3, none⟩ (.slice A17 n17 c17)) w.heap.size (.slice A17 n17 c17) (C ++ [⟨p, gb, x⟩]) := rw_put Hoc17.out (rw_ne Q17.out.p (by decide) Hoc17.out) _
                    exact ⟨⟨j + 1, _, C ++ [⟨p, gb, x⟩], og, at12, e12, by omega, rfl, by go_num, hown18, hoc18, HLn, Q17.out.putP 3 _, HFn⟩, by simp [intOf]; omega⟩
                · have HC := hide (show rdChs m0 (bs.drop at5) e5 = ((C ++ (rdChs (m0 - j) (bs.drop at9) e9).1.1, b || (rdChs (m0 - j) (bs.drop at9) e9).1.2), bs.drop at9, e9) from by rw [HF.out, chs_bad he9])
                  have HCL := hide (show e9 = 0 → C ++ (rdChs (m0 - j) (bs.drop at9) e9).1.1 = C ∧ (b || (rdChs (m0 - j) (bs.drop at9) e9).1.2) = b from fun h => absurd h he9)
                  generalize C ++ (rdChs (m0 - j) (bs.drop at9) e9).1.1 = chs at HC HCL
                  generalize (b || (rdChs (m0 - j) (bs.drop at9) e9).1.2) = o6 at HC HCL
                  have hz1 : ((e9 : Int) == 0) = false := by rw [beq_eq_false_iff_ne]; omega
                  have hz2 : decide ((e9 : Int) = 0) = false := decide_eq_false (by omega)
                  have cf := Q9.out.fail
                  have HLs2 := hide (show C.length ≤ 100 by rw [HLc.out]; omega)
                  clear HF HLc
                  go_wp2_with fail
                  clear hz1 hz2 cf
                  refine (rend_any Q9.out.rd).mono ?_
                  rintro y w19 ⟨rfl, n19, hw19⟩
                  have Q19 := hide (show QS w w19 R Z G P bs at9 e9 [vi, .string ⟨a.toArray⟩, .string ⟨o.toArray⟩, vc] from by rw [hw19]; exact Q9.out.turned (Q9.out.rd.drewN n19) ((Only.refl _ _).drewN n19))
                  have Hown19 := hide (show OwT w19 w.heap.size tI vi L from by rw [hw19]; exact OwT.drewN Hown9.out n19)
                  have Hoc19 := hide (show OwC w19 w.heap.size vc C from by rw [hw19]; exact OwC.drewN Hoc9.out n19)
                  have HEnd := hide (show endOf (bs.drop at9) e9 = 0 → e9 = 0 from fun h => by
                    by_cases h9 : e9 = 0
                    · exact h9
                    · rw [endOf, if_neg h9] at h; exact h)
                  have HPD := hide (show pdecode bs = if endOf (bs.drop at9) e9 ≠ 0 then (noPch, endOf (bs.drop at9) e9) else if (o6 || !pright ⟨ids, a, o, chs⟩) = true then (noPch, 3) else (⟨ids, a, o, chs⟩, 0) from by
                    rw [pdecode_rd HST.out (n := n0) (by rw [if_neg (by have := HN16.out; omega)]) HI.out HT4.out HT6.out HNm.out (m := m0) (by rw [if_neg (by have := HM.out; omega)]) HC.out (by have := HL.out; omega), decide_eq_false (show ¬ 16 < n0 by have := HN16.out; omega), decide_eq_false (show ¬ 100 < m0 by have := HM.out; omega)]
                    rfl)
                  have HE2 := hide (show e9 = 0 → e2 = 0 from fun h9 => by
                    apply Classical.byContradiction
                    intro h
                    have x3 : e3 = e2 := by have := HT4.out; rw [step_bad h] at this; exact (congrArg (fun z => z.2.2) this).symm
                    have x4 : e4 = e3 := by have := HT6.out; rw [step_bad (by omega)] at this; exact (congrArg (fun z => z.2.2) this).symm
                    have x5 : e5 = e4 := by have := HNm.out; rw [step_bad_num (by omega)] at this; exact (congrArg (fun z => z.2.2) this).symm
                    have x9 : e9 = e5 := by have := congrArg Prod.snd HC.out; rw [chs_bad (by omega)] at this; exact (congrArg Prod.snd this).symm
                    omega)
                  have hli := (ids_short n0 (bs.drop at1) e1).1
                  have hlc := chs_short m0 (bs.drop at5) e5
                  have hla := (text_short (bs.drop at2) e2 100).1
                  have hlo := (text_short (bs.drop at3) e3 1000).1
                  rw [HI.out] at hli
                  rw [HC.out] at hlc
                  rw [HT4.out] at hla
                  rw [HT6.out] at hlo
                  simp only [List.length_drop] at hli hlc hla hlo
                  have HLi := hide hli
                  have HLc2 := hide hlc
                  have HLa := hide hla
                  have HLo := hide hlo
                  clear hw19 Q9 Hown9 Hoc9 HST HI HT4 HT6 HNm HC hli hlc hla hlo
                  generalize endOf (bs.drop at9) e9 = x at HEnd HPD ⊢
                  by_cases hx0 : x = 0
                  · have d1 : ((x : Int) != 0) = false := by rw [bne_eq_false_iff_eq]; omega
                    have d2 : decide ((x : Int) = 0) = true := decide_eq_true (by omega)
                    have h9 := HEnd.out hx0
                    obtain ⟨hc1, hc2⟩ := HCL.out h9
                    have hids := HIL.out (HE2.out h9)
                    rw [hids, hc1, hc2] at HPD
                    rw [hids] at HLi
                    rw [hc1] at HLc2
                    obtain ⟨Ai, ci, ei, hv1⟩ := Hown19.out.vs
                    obtain ⟨Ac, cc, ec, hv2⟩ := Hoc19.out.fls
                    subst ei
                    subst ec
                    have hpin : PIn w19 ⟨L, a, o, C⟩ Ai Ac ci cc := ⟨⟨hv1.1, fun h => by obtain ⟨b, oo, k1, _, k2⟩ := hv1.2 h; exact ⟨b, oo, k1, trivial, k2⟩⟩, hv2, fun q hq => by have := HLi.out q hq; have := HL.out; omega, fun f hf => by have := HLc2.out f hf; have := HL.out; omega, by have := HLs.out; show L.length ≤ _; omega, by have := HLa.out; have := HL.out; show a.length ≤ _; omega, by have := HLo.out; have := HL.out; show o.length ≤ _; omega, by have := HLs2.out; show C.length ≤ _; omega⟩
                    have HRt := hide (show Calls Tryd.prog 16 #[.agg #[.slice Ai L.length ci, .string ⟨a.toArray⟩, .string ⟨o.toArray⟩, .slice Ac C.length cc]] w19 _ from rright12_any ⟨L, a, o, C⟩ Ai Ac ci cc w19 hpin)
                    generalize pright ⟨L, a, o, C⟩ = pr at HRt HPD
                    have p0 := Q19.out.p.cell 0
                    have p1 := Q19.out.p.cell 1
                    have p2 := Q19.out.p.cell 2
                    have p3 := Q19.out.p.cell 3
                    simp only [List.getElem?_cons_zero, List.getElem?_cons_succ] at p0 p1 p2 p3
                    obtain ⟨nL, hnL⟩ : ∃ z, z = L.length := ⟨_, rfl⟩
                    obtain ⟨nC, hnC⟩ : ∃ z, z = C.length := ⟨_, rfl⟩
                    rw [← hnL] at Q19 Hown19 HRt p0
                    rw [← hnC] at Q19 Hoc19 HRt p3
                    clear hids hc1 hc2 h9 HEnd HCL HIL HE2 HLi HLc2 HLa HLo hv1 hv2 hpin HLs HLs2 hnL hnC
                    go_wp2_with fail
                    clear d1 d2 p0 p1 p2 p3
                    refine HRt.out.mono ?_
                    rintro y w20 ⟨rfl, hb20⟩
                    have Q20 := hide (Q19.out.keep hb20)
                    have Hown20 := hide (show OwT w20 w.heap.size tI (.slice Ai nL ci) L from OwT.kept Hown19.out hb20)
                    have Hoc20 := hide (show OwC w20 w.heap.size (.slice Ac nC cc) C from OwC.keep Hoc19.out hb20)
                    clear hb20 HRt Q19 Hown19 Hoc19
                    cases b with
                    | true =>
                      have HD := hide (show pdecode bs = (noPch, 3) from by
                        rw [HPD.out, if_neg (by omega), if_pos (by simp)])
                      have z0 := Q20.out.z.cell 0
                      have z1 := Q20.out.z.cell 1
                      have z2 := Q20.out.z.cell 2
                      have z3 := Q20.out.z.cell 3
                      have s0 := Q20.out.r.cell 0
                      have s1 := Q20.out.r.cell 1
                      have s2 := Q20.out.r.cell 2
                      have s3 := Q20.out.r.cell 3
                      have f0 := Q20.out.r.free 0
                      have f1 := Q20.out.r.free 1
                      have f2 := Q20.out.r.free 2
                      have f3 := Q20.out.r.free 3
                      have hr0 := Q20.out.ne.2.2.2.2.2.1
                      simp only [List.getElem?_cons_zero, List.getElem?_cons_succ] at z0 z1 z2 z3 s0 s1 s2 s3
                      have HR0 := hide hr0
                      clear hr0 HPD
                      go_wp2
                      have hrf := (((Q20.out.r.put 0 (.slice none 0 0)).put 1 (.string ⟨#[]⟩)).put 2 (.string ⟨#[]⟩)).put 3 (.slice none 0 0)
                      exact bodyPost_ret (results_cr rfl _ _ R tP #[.slice none 0 0, .string ⟨#[]⟩, .string ⟨#[]⟩, .slice none 0 0] (0, 0) _ rfl hrf Tryd.underlying25 rfl sizePt) rfl ⟨_, _, by rw [HD.out]; rfl, by rw [HD.out]; exact OwT.nil _ _ _, by rw [HD.out]; exact OwC.nil _ _, below_put (below_put (below_put (below_put Q20.out.low HR0.out _) HR0.out _) HR0.out _) HR0.out _⟩
                    | false =>
                      cases pr with
                      | false =>
                        have HD := hide (show pdecode bs = (noPch, 3) from by
                          rw [HPD.out, if_neg (by omega), if_pos (by simp)])
                        have z0 := Q20.out.z.cell 0
                        have z1 := Q20.out.z.cell 1
                        have z2 := Q20.out.z.cell 2
                        have z3 := Q20.out.z.cell 3
                        have s0 := Q20.out.r.cell 0
                        have s1 := Q20.out.r.cell 1
                        have s2 := Q20.out.r.cell 2
                        have s3 := Q20.out.r.cell 3
                        have f0 := Q20.out.r.free 0
                        have f1 := Q20.out.r.free 1
                        have f2 := Q20.out.r.free 2
                        have f3 := Q20.out.r.free 3
                        have hr0 := Q20.out.ne.2.2.2.2.2.1
                        simp only [List.getElem?_cons_zero, List.getElem?_cons_succ] at z0 z1 z2 z3 s0 s1 s2 s3
                        have HR0 := hide hr0
                        clear hr0 HPD
                        go_wp2
                        have hrf := (((Q20.out.r.put 0 (.slice none 0 0)).put 1 (.string ⟨#[]⟩)).put 2 (.string ⟨#[]⟩)).put 3 (.slice none 0 0)
                        exact bodyPost_ret (results_cr rfl _ _ R tP #[.slice none 0 0, .string ⟨#[]⟩, .string ⟨#[]⟩, .slice none 0 0] (0, 0) _ rfl hrf Tryd.underlying25 rfl sizePt) rfl ⟨_, _, by rw [HD.out]; rfl, by rw [HD.out]; exact OwT.nil _ _ _, by rw [HD.out]; exact OwC.nil _ _, below_put (below_put (below_put (below_put Q20.out.low HR0.out _) HR0.out _) HR0.out _) HR0.out _⟩
                      | true =>
                        have HD := hide (show pdecode bs = (⟨L, a, o, C⟩, 0) from by
                          rw [HPD.out, if_neg (by omega), if_neg (by simp)])
                        have p0 := Q20.out.p.cell 0
                        have p1 := Q20.out.p.cell 1
                        have p2 := Q20.out.p.cell 2
                        have p3 := Q20.out.p.cell 3
                        have s0 := Q20.out.r.cell 0
                        have s1 := Q20.out.r.cell 1
                        have s2 := Q20.out.r.cell 2
                        have s3 := Q20.out.r.cell 3
                        have f0 := Q20.out.r.free 0
                        have f1 := Q20.out.r.free 1
                        have f2 := Q20.out.r.free 2
                        have f3 := Q20.out.r.free 3
                        have HR0 := hide Q20.out.ne.2.2.2.2.2.1
                        simp only [List.getElem?_cons_zero, List.getElem?_cons_succ] at p0 p1 p2 p3 s0 s1 s2 s3
                        clear HPD hx0
                        go_wp2
                        have hrf := (((Q20.out.r.put 0 (.slice Ai nL ci)).put 1 (.string ⟨a.toArray⟩)).put 2 (.string ⟨o.toArray⟩)).put 3 (.slice Ac nC cc)
                        have hfin : ∀ (wz : World) (i : Nat) (u : Value), OwT wz w.heap.size tI (.slice Ai nL ci) L ∧ OwC wz w.heap.size (.slice Ac nC cc) C ∧ (∃ cs, Row wz R tP cs) →
                            OwT (wz.setCell ⟨R, i, none⟩ u) w.heap.size tI (.slice Ai nL ci) L ∧ OwC (wz.setCell ⟨R, i, none⟩ u) w.heap.size (.slice Ac nC cc) C ∧ (∃ cs, Row (wz.setCell ⟨R, i, none⟩ u) R tP cs) := by
                          rintro wz i u ⟨k1, k2, cs, k5⟩
                          exact ⟨rw_put k1 (rw_ne k5 (by decide) k1) _, rw_put k2 (rw_ne k5 (by decide) k2) _, _, k5.put i u⟩
                        have hf9 := hfin _ 3 (.slice Ac nC cc) (hfin _ 2 (.string ⟨o.toArray⟩) (hfin _ 1 (.string ⟨a.toArray⟩) (hfin _ 0 (.slice Ai nL ci) ⟨Hown20.out, Hoc20.out, _, Q20.out.r⟩)))
                        exact bodyPost_ret (results_cr rfl _ _ R tP #[.slice Ai nL ci, .string ⟨a.toArray⟩, .string ⟨o.toArray⟩, .slice Ac nC cc] (0, 0) _ rfl hrf Tryd.underlying25 rfl sizePt) rfl ⟨_, _, by rw [HD.out]; rfl, by rw [HD.out]; exact hf9.1, by rw [HD.out]; exact hf9.2.1, below_put (below_put (below_put (below_put Q20.out.low HR0.out _) HR0.out _) HR0.out _) HR0.out _⟩
                  · have d1 : ((x : Int) != 0) = true := by rw [bne_iff_ne]; omega
                    have d2 : decide ((x : Int) = 0) = false := decide_eq_false (by omega)
                    have HD := hide (show pdecode bs = (noPch, x) from by
                      rw [HPD.out, if_pos hx0])
                    have z0 := Q19.out.z.cell 0
                    have z1 := Q19.out.z.cell 1
                    have z2 := Q19.out.z.cell 2
                    have z3 := Q19.out.z.cell 3
                    have s0 := Q19.out.r.cell 0
                    have s1 := Q19.out.r.cell 1
                    have s2 := Q19.out.r.cell 2
                    have s3 := Q19.out.r.cell 3
                    have f0 := Q19.out.r.free 0
                    have f1 := Q19.out.r.free 1
                    have f2 := Q19.out.r.free 2
                    have f3 := Q19.out.r.free 3
                    have hr0 := Q19.out.ne.2.2.2.2.2.1
                    simp only [List.getElem?_cons_zero, List.getElem?_cons_succ] at z0 z1 z2 z3 s0 s1 s2 s3
                    have HR0 := hide hr0
                    clear hr0 HPD HEnd HCL HIL HE2 HLi HLc2 HLa HLo hx0
                    go_wp2
                    have hrf := (((Q19.out.r.put 0 (.slice none 0 0)).put 1 (.string ⟨#[]⟩)).put 2 (.string ⟨#[]⟩)).put 3 (.slice none 0 0)
                    exact bodyPost_ret (results_cr rfl _ _ R tP #[.slice none 0 0, .string ⟨#[]⟩, .string ⟨#[]⟩, .slice none 0 0] (0, 0) _ rfl hrf Tryd.underlying25 rfl sizePt) rfl ⟨_, _, by rw [HD.out]; rfl, by rw [HD.out]; exact OwT.nil _ _ _, by rw [HD.out]; exact OwC.nil _ _, below_put (below_put (below_put (below_put Q19.out.low HR0.out _) HR0.out _) HR0.out _) HR0.out _⟩
              · have HC := hide (show rdChs m0 (bs.drop at5) e5 = ((C, b), bs.drop at9, e9) from by rw [HF.out, show m0 - j = 0 by omega]; simp [rdChs])
                obtain ⟨chs, hchs⟩ : ∃ x, x = C := ⟨_, rfl⟩
                obtain ⟨o6, ho6⟩ : ∃ x, x = b := ⟨_, rfl⟩
                have HC := hide (show rdChs m0 (bs.drop at5) e5 = ((chs, o6), bs.drop at9, e9) from by rw [hchs, ho6]; exact HC.out)
                have HCL := hide (show e9 = 0 → chs = C ∧ o6 = b from fun _ => ⟨hchs, ho6⟩)
                have HLs2 := hide (show C.length ≤ 100 by rw [HLc.out]; omega)
                clear HF HLc hchs ho6
                go_wp2_with fail
                refine (rend_any Q9.out.rd).mono ?_
                rintro y w19 ⟨rfl, n19, hw19⟩
                have Q19 := hide (show QS w w19 R Z G P bs at9 e9 [vi, .string ⟨a.toArray⟩, .string ⟨o.toArray⟩, vc] from by rw [hw19]; exact Q9.out.turned (Q9.out.rd.drewN n19) ((Only.refl _ _).drewN n19))
                have Hown19 := hide (show OwT w19 w.heap.size tI vi L from by rw [hw19]; exact OwT.drewN Hown9.out n19)
                have Hoc19 := hide (show OwC w19 w.heap.size vc C from by rw [hw19]; exact OwC.drewN Hoc9.out n19)
                have HEnd := hide (show endOf (bs.drop at9) e9 = 0 → e9 = 0 from fun h => by
                  by_cases h9 : e9 = 0
                  · exact h9
                  · rw [endOf, if_neg h9] at h; exact h)
                have HPD := hide (show pdecode bs = if endOf (bs.drop at9) e9 ≠ 0 then (noPch, endOf (bs.drop at9) e9) else if (o6 || !pright ⟨ids, a, o, chs⟩) = true then (noPch, 3) else (⟨ids, a, o, chs⟩, 0) from by
                  rw [pdecode_rd HST.out (n := n0) (by rw [if_neg (by have := HN16.out; omega)]) HI.out HT4.out HT6.out HNm.out (m := m0) (by rw [if_neg (by have := HM.out; omega)]) HC.out (by have := HL.out; omega), decide_eq_false (show ¬ 16 < n0 by have := HN16.out; omega), decide_eq_false (show ¬ 100 < m0 by have := HM.out; omega)]
                  rfl)
                have HE2 := hide (show e9 = 0 → e2 = 0 from fun h9 => by
                  apply Classical.byContradiction
                  intro h
                  have x3 : e3 = e2 := by have := HT4.out; rw [step_bad h] at this; exact (congrArg (fun z => z.2.2) this).symm
                  have x4 : e4 = e3 := by have := HT6.out; rw [step_bad (by omega)] at this; exact (congrArg (fun z => z.2.2) this).symm
                  have x5 : e5 = e4 := by have := HNm.out; rw [step_bad_num (by omega)] at this; exact (congrArg (fun z => z.2.2) this).symm
                  have x9 : e9 = e5 := by have := congrArg Prod.snd HC.out; rw [chs_bad (by omega)] at this; exact (congrArg Prod.snd this).symm
                  omega)
                have hli := (ids_short n0 (bs.drop at1) e1).1
                have hlc := chs_short m0 (bs.drop at5) e5
                have hla := (text_short (bs.drop at2) e2 100).1
                have hlo := (text_short (bs.drop at3) e3 1000).1
                rw [HI.out] at hli
                rw [HC.out] at hlc
                rw [HT4.out] at hla
                rw [HT6.out] at hlo
                simp only [List.length_drop] at hli hlc hla hlo
                have HLi := hide hli
                have HLc2 := hide hlc
                have HLa := hide hla
                have HLo := hide hlo
                clear hw19 Q9 Hown9 Hoc9 HST HI HT4 HT6 HNm HC hli hlc hla hlo
                generalize endOf (bs.drop at9) e9 = x at HEnd HPD ⊢
                by_cases hx0 : x = 0
                · have d1 : ((x : Int) != 0) = false := by rw [bne_eq_false_iff_eq]; omega
                  have d2 : decide ((x : Int) = 0) = true := decide_eq_true (by omega)
                  have h9 := HEnd.out hx0
                  obtain ⟨hc1, hc2⟩ := HCL.out h9
                  have hids := HIL.out (HE2.out h9)
                  rw [hids, hc1, hc2] at HPD
                  rw [hids] at HLi
                  rw [hc1] at HLc2
                  obtain ⟨Ai, ci, ei, hv1⟩ := Hown19.out.vs
                  obtain ⟨Ac, cc, ec, hv2⟩ := Hoc19.out.fls
                  subst ei
                  subst ec
                  have hpin : PIn w19 ⟨L, a, o, C⟩ Ai Ac ci cc := ⟨⟨hv1.1, fun h => by obtain ⟨b, oo, k1, _, k2⟩ := hv1.2 h; exact ⟨b, oo, k1, trivial, k2⟩⟩, hv2, fun q hq => by have := HLi.out q hq; have := HL.out; omega, fun f hf => by have := HLc2.out f hf; have := HL.out; omega, by have := HLs.out; show L.length ≤ _; omega, by have := HLa.out; have := HL.out; show a.length ≤ _; omega, by have := HLo.out; have := HL.out; show o.length ≤ _; omega, by have := HLs2.out; show C.length ≤ _; omega⟩
                  have HRt := hide (show Calls Tryd.prog 16 #[.agg #[.slice Ai L.length ci, .string ⟨a.toArray⟩, .string ⟨o.toArray⟩, .slice Ac C.length cc]] w19 _ from rright12_any ⟨L, a, o, C⟩ Ai Ac ci cc w19 hpin)
                  generalize pright ⟨L, a, o, C⟩ = pr at HRt HPD
                  have p0 := Q19.out.p.cell 0
                  have p1 := Q19.out.p.cell 1
                  have p2 := Q19.out.p.cell 2
                  have p3 := Q19.out.p.cell 3
                  simp only [List.getElem?_cons_zero, List.getElem?_cons_succ] at p0 p1 p2 p3
                  obtain ⟨nL, hnL⟩ : ∃ z, z = L.length := ⟨_, rfl⟩
                  obtain ⟨nC, hnC⟩ : ∃ z, z = C.length := ⟨_, rfl⟩
                  rw [← hnL] at Q19 Hown19 HRt p0
                  rw [← hnC] at Q19 Hoc19 HRt p3
                  clear hids hc1 hc2 h9 HEnd HCL HIL HE2 HLi HLc2 HLa HLo hv1 hv2 hpin HLs HLs2 hnL hnC
                  go_wp2_with fail
                  clear d1 d2 p0 p1 p2 p3
                  refine HRt.out.mono ?_
                  rintro y w20 ⟨rfl, hb20⟩
                  have Q20 := hide (Q19.out.keep hb20)
                  have Hown20 := hide (show OwT w20 w.heap.size tI (.slice Ai nL ci) L from OwT.kept Hown19.out hb20)
                  have Hoc20 := hide (show OwC w20 w.heap.size (.slice Ac nC cc) C from OwC.keep Hoc19.out hb20)
                  clear hb20 HRt Q19 Hown19 Hoc19
                  cases b with
                  | true =>
                    have HD := hide (show pdecode bs = (noPch, 3) from by
                      rw [HPD.out, if_neg (by omega), if_pos (by simp)])
                    have z0 := Q20.out.z.cell 0
                    have z1 := Q20.out.z.cell 1
                    have z2 := Q20.out.z.cell 2
                    have z3 := Q20.out.z.cell 3
                    have s0 := Q20.out.r.cell 0
                    have s1 := Q20.out.r.cell 1
                    have s2 := Q20.out.r.cell 2
                    have s3 := Q20.out.r.cell 3
                    have f0 := Q20.out.r.free 0
                    have f1 := Q20.out.r.free 1
                    have f2 := Q20.out.r.free 2
                    have f3 := Q20.out.r.free 3
                    have hr0 := Q20.out.ne.2.2.2.2.2.1
                    simp only [List.getElem?_cons_zero, List.getElem?_cons_succ] at z0 z1 z2 z3 s0 s1 s2 s3
                    have HR0 := hide hr0
                    clear hr0 HPD
                    go_wp2
                    have hrf := (((Q20.out.r.put 0 (.slice none 0 0)).put 1 (.string ⟨#[]⟩)).put 2 (.string ⟨#[]⟩)).put 3 (.slice none 0 0)
                    exact bodyPost_ret (results_cr rfl _ _ R tP #[.slice none 0 0, .string ⟨#[]⟩, .string ⟨#[]⟩, .slice none 0 0] (0, 0) _ rfl hrf Tryd.underlying25 rfl sizePt) rfl ⟨_, _, by rw [HD.out]; rfl, by rw [HD.out]; exact OwT.nil _ _ _, by rw [HD.out]; exact OwC.nil _ _, below_put (below_put (below_put (below_put Q20.out.low HR0.out _) HR0.out _) HR0.out _) HR0.out _⟩
                  | false =>
                    cases pr with
                    | false =>
                      have HD := hide (show pdecode bs = (noPch, 3) from by
                        rw [HPD.out, if_neg (by omega), if_pos (by simp)])
                      have z0 := Q20.out.z.cell 0
                      have z1 := Q20.out.z.cell 1
                      have z2 := Q20.out.z.cell 2
                      have z3 := Q20.out.z.cell 3
                      have s0 := Q20.out.r.cell 0
                      have s1 := Q20.out.r.cell 1
                      have s2 := Q20.out.r.cell 2
                      have s3 := Q20.out.r.cell 3
                      have f0 := Q20.out.r.free 0
                      have f1 := Q20.out.r.free 1
                      have f2 := Q20.out.r.free 2
                      have f3 := Q20.out.r.free 3
                      have hr0 := Q20.out.ne.2.2.2.2.2.1
                      simp only [List.getElem?_cons_zero, List.getElem?_cons_succ] at z0 z1 z2 z3 s0 s1 s2 s3
                      have HR0 := hide hr0
                      clear hr0 HPD
                      go_wp2
                      have hrf := (((Q20.out.r.put 0 (.slice none 0 0)).put 1 (.string ⟨#[]⟩)).put 2 (.string ⟨#[]⟩)).put 3 (.slice none 0 0)
                      exact bodyPost_ret (results_cr rfl _ _ R tP #[.slice none 0 0, .string ⟨#[]⟩, .string ⟨#[]⟩, .slice none 0 0] (0, 0) _ rfl hrf Tryd.underlying25 rfl sizePt) rfl ⟨_, _, by rw [HD.out]; rfl, by rw [HD.out]; exact OwT.nil _ _ _, by rw [HD.out]; exact OwC.nil _ _, below_put (below_put (below_put (below_put Q20.out.low HR0.out _) HR0.out _) HR0.out _) HR0.out _⟩
                    | true =>
                      have HD := hide (show pdecode bs = (⟨L, a, o, C⟩, 0) from by
                        rw [HPD.out, if_neg (by omega), if_neg (by simp)])
                      have p0 := Q20.out.p.cell 0
                      have p1 := Q20.out.p.cell 1
                      have p2 := Q20.out.p.cell 2
                      have p3 := Q20.out.p.cell 3
                      have s0 := Q20.out.r.cell 0
                      have s1 := Q20.out.r.cell 1
                      have s2 := Q20.out.r.cell 2
                      have s3 := Q20.out.r.cell 3
                      have f0 := Q20.out.r.free 0
                      have f1 := Q20.out.r.free 1
                      have f2 := Q20.out.r.free 2
                      have f3 := Q20.out.r.free 3
                      have HR0 := hide Q20.out.ne.2.2.2.2.2.1
                      simp only [List.getElem?_cons_zero, List.getElem?_cons_succ] at p0 p1 p2 p3 s0 s1 s2 s3
                      clear HPD hx0
                      go_wp2
                      have hrf := (((Q20.out.r.put 0 (.slice Ai nL ci)).put 1 (.string ⟨a.toArray⟩)).put 2 (.string ⟨o.toArray⟩)).put 3 (.slice Ac nC cc)
                      have hfin : ∀ (wz : World) (i : Nat) (u : Value), OwT wz w.heap.size tI (.slice Ai nL ci) L ∧ OwC wz w.heap.size (.slice Ac nC cc) C ∧ (∃ cs, Row wz R tP cs) →
                          OwT (wz.setCell ⟨R, i, none⟩ u) w.heap.size tI (.slice Ai nL ci) L ∧ OwC (wz.setCell ⟨R, i, none⟩ u) w.heap.size (.slice Ac nC cc) C ∧ (∃ cs, Row (wz.setCell ⟨R, i, none⟩ u) R tP cs) := by
                        rintro wz i u ⟨k1, k2, cs, k5⟩
                        exact ⟨rw_put k1 (rw_ne k5 (by decide) k1) _, rw_put k2 (rw_ne k5 (by decide) k2) _, _, k5.put i u⟩
                      have hf9 := hfin _ 3 (.slice Ac nC cc) (hfin _ 2 (.string ⟨o.toArray⟩) (hfin _ 1 (.string ⟨a.toArray⟩) (hfin _ 0 (.slice Ai nL ci) ⟨Hown20.out, Hoc20.out, _, Q20.out.r⟩)))
                      exact bodyPost_ret (results_cr rfl _ _ R tP #[.slice Ai nL ci, .string ⟨a.toArray⟩, .string ⟨o.toArray⟩, .slice Ac nC cc] (0, 0) _ rfl hrf Tryd.underlying25 rfl sizePt) rfl ⟨_, _, by rw [HD.out]; rfl, by rw [HD.out]; exact hf9.1, by rw [HD.out]; exact hf9.2.1, below_put (below_put (below_put (below_put Q20.out.low HR0.out _) HR0.out _) HR0.out _) HR0.out _⟩
                · have d1 : ((x : Int) != 0) = true := by rw [bne_iff_ne]; omega
                  have d2 : decide ((x : Int) = 0) = false := decide_eq_false (by omega)
                  have HD := hide (show pdecode bs = (noPch, x) from by
                    rw [HPD.out, if_pos hx0])
                  have z0 := Q19.out.z.cell 0
                  have z1 := Q19.out.z.cell 1
                  have z2 := Q19.out.z.cell 2
                  have z3 := Q19.out.z.cell 3
                  have s0 := Q19.out.r.cell 0
                  have s1 := Q19.out.r.cell 1
                  have s2 := Q19.out.r.cell 2
                  have s3 := Q19.out.r.cell 3
                  have f0 := Q19.out.r.free 0
                  have f1 := Q19.out.r.free 1
                  have f2 := Q19.out.r.free 2
                  have f3 := Q19.out.r.free 3
                  have hr0 := Q19.out.ne.2.2.2.2.2.1
                  simp only [List.getElem?_cons_zero, List.getElem?_cons_succ] at z0 z1 z2 z3 s0 s1 s2 s3
                  have HR0 := hide hr0
                  clear hr0 HPD HEnd HCL HIL HE2 HLi HLc2 HLa HLo hx0
                  go_wp2
                  have hrf := (((Q19.out.r.put 0 (.slice none 0 0)).put 1 (.string ⟨#[]⟩)).put 2 (.string ⟨#[]⟩)).put 3 (.slice none 0 0)
                  exact bodyPost_ret (results_cr rfl _ _ R tP #[.slice none 0 0, .string ⟨#[]⟩, .string ⟨#[]⟩, .slice none 0 0] (0, 0) _ rfl hrf Tryd.underlying25 rfl sizePt) rfl ⟨_, _, by rw [HD.out]; rfl, by rw [HD.out]; exact OwT.nil _ _ _, by rw [HD.out]; exact OwC.nil _ _, below_put (below_put (below_put (below_put Q19.out.low HR0.out _) HR0.out _) HR0.out _) HR0.out _⟩
      · have HI := hide (show rdIds n0 (bs.drop at1) e1 = (L, bs.drop at2, e2) from by rw [HF.out, show n0 - k = 0 by omega]; simp [rdIds])
        have HLs := hide (show L.length ≤ 16 by rw [HLk.out]; omega)
        obtain ⟨ids, hids⟩ : ∃ x, x = L := ⟨_, rfl⟩
        have HI := hide (show rdIds n0 (bs.drop at1) e1 = (ids, bs.drop at2, e2) from by rw [hids]; exact HI.out)
        have HIL := hide (show e2 = 0 → ids = L from fun _ => hids)
        clear HF HLk hids
        go_wp2_with fail
        refine (rread_text 100 Q3.out.rd (by omega)).mono ?_
        rintro y w4 ⟨v4, at3, e3, rfl, hv, hr, hst, ho⟩
        obtain ⟨a, ha⟩ : ∃ t, t = (stepText (bs.drop at2) e2 100).1 := ⟨_, rfl⟩
        rw [← ha] at hv
        have HT4 := hide (show stepText (bs.drop at2) e2 100 = (a, bs.drop at3, e3) from Prod.ext ha.symm hst)
        have hq := Q3.out.turned hr ho
        have hown : OwT w4 w.heap.size tI vi L := Q3.out.owned Hown.out (by decide) ho
        have hc := hv.text 28 9 5 Tryd.underlying28 Tryd.underlying5 Tryd.underlying9
        obtain ⟨A4, c4, rfl, _⟩ := hv.sl
        obtain ⟨nt4, hnt⟩ : ∃ z, z = a.length := ⟨_, rfl⟩
        rw [← hnt] at hc ⊢
        have cp := hq.p.cell 1
        have fp := hq.p.free 1
        simp only [List.getElem?_cons_zero, List.getElem?_cons_succ] at cp
        obtain ⟨w5, hw5⟩ : ∃ z, z = w4.setCell ⟨P, 1, none⟩ (.string ⟨a.toArray⟩) := ⟨_, rfl⟩
        have Q5 := hide (show QS w w5 R Z G P bs at3 e3 [vi, .string ⟨a.toArray⟩, .string ⟨#[]⟩, .slice none 0 0] from by rw [hw5]; exact hq.putP 1 _)
        have Hown5 := hide (show OwT w5 w.heap.size tI vi L from by rw [hw5]; exact rw_put hown (rw_ne hq.p (by decide) hown) _)
        have W5 := hide hw5
        clear hv hr hst ho ha hq hown hnt hw5 Q3 Hown
        go_wp2_with (first | rw [← W5.out] | fail)
        clear hc cp fp W5
        refine (rread_text 1000 Q5.out.rd (by omega)).mono ?_
        rintro y w6 ⟨v6, at4, e4, rfl, hv, hr, hst, ho⟩
        obtain ⟨o, ha⟩ : ∃ t, t = (stepText (bs.drop at3) e3 1000).1 := ⟨_, rfl⟩
        rw [← ha] at hv
        have HT6 := hide (show stepText (bs.drop at3) e3 1000 = (o, bs.drop at4, e4) from Prod.ext ha.symm hst)
        have hq := Q5.out.turned hr ho
        have hown : OwT w6 w.heap.size tI vi L := Q5.out.owned Hown5.out (by decide) ho
        have hc := hv.text 28 9 5 Tryd.underlying28 Tryd.underlying5 Tryd.underlying9
        obtain ⟨A6, c6, rfl, _⟩ := hv.sl
        obtain ⟨nt6, hnt⟩ : ∃ z, z = o.length := ⟨_, rfl⟩
        rw [← hnt] at hc ⊢
        have cp := hq.p.cell 2
        have fp := hq.p.free 2
        simp only [List.getElem?_cons_zero, List.getElem?_cons_succ] at cp
        obtain ⟨w7, hw7⟩ : ∃ z, z = w6.setCell ⟨P, 2, none⟩ (.string ⟨o.toArray⟩) := ⟨_, rfl⟩
        have Q7 := hide (show QS w w7 R Z G P bs at4 e4 [vi, .string ⟨a.toArray⟩, .string ⟨o.toArray⟩, .slice none 0 0] from by rw [hw7]; exact hq.putP 2 _)
        have Hown7 := hide (show OwT w7 w.heap.size tI vi L from by rw [hw7]; exact rw_put hown (rw_ne hq.p (by decide) hown) _)
        have W7 := hide hw7
        clear hv hr hst ho ha hq hown hnt hw7 Q5 Hown5
        go_wp2_with (first | rw [← W7.out] | fail)
        clear hc cp fp W7
        refine (rread_num Q7.out.rd).mono ?_
        rintro y w8 ⟨m0, at5, e5, rfl, hr, hst, ho⟩
        have HNm := hide hst
        have Q8 := hide (Q7.out.turned hr ho)
        have Hown8 := hide (show OwT w8 w.heap.size tI vi L from Q7.out.owned Hown7.out (by decide) ho)
        clear hr hst ho Q7 Hown7
        by_cases h100 : 100 < m0
        · have d1 : decide (100 < (m0 : Int)) = true := decide_eq_true (by omega)
          have HD := hide (show pdecode bs = (noPch, 4) from by
            rw [pdecode_rd HST.out (n := n0) (by rw [if_neg (by have := HN16.out; omega)]) HI.out HT4.out HT6.out HNm.out (m := 0) (by rw [if_pos h100]) (show rdChs 0 (bs.drop at5) e5 = (([], false), bs.drop at5, e5) from rfl) (by have := HL.out; omega)]
            rw [decide_eq_true h100, Bool.or_true, if_pos rfl])
          have z0 := Q8.out.z.cell 0
          have z1 := Q8.out.z.cell 1
          have z2 := Q8.out.z.cell 2
          have z3 := Q8.out.z.cell 3
          have s0 := Q8.out.r.cell 0
          have s1 := Q8.out.r.cell 1
          have s2 := Q8.out.r.cell 2
          have s3 := Q8.out.r.cell 3
          have f0 := Q8.out.r.free 0
          have f1 := Q8.out.r.free 1
          have f2 := Q8.out.r.free 2
          have f3 := Q8.out.r.free 3
          have hr0 := Q8.out.ne.2.2.2.2.2.1
          simp only [List.getElem?_cons_zero, List.getElem?_cons_succ] at z0 z1 z2 z3 s0 s1 s2 s3
          have HR0 := hide hr0
          clear hr0 HST HI HIL HT4 HT6 HNm
          go_wp2
          have hrf := (((Q8.out.r.put 0 (.slice none 0 0)).put 1 (.string ⟨#[]⟩)).put 2 (.string ⟨#[]⟩)).put 3 (.slice none 0 0)
          exact bodyPost_ret (results_cr rfl _ _ R tP #[.slice none 0 0, .string ⟨#[]⟩, .string ⟨#[]⟩, .slice none 0 0] (0, 0) _ rfl hrf Tryd.underlying25 rfl sizePt) rfl ⟨_, _, by rw [HD.out]; rfl, by rw [HD.out]; exact OwT.nil _ _ _, by rw [HD.out]; exact OwC.nil _ _, below_put (below_put (below_put (below_put Q8.out.low HR0.out _) HR0.out _) HR0.out _) HR0.out _⟩
        · have d1 : decide (100 < (m0 : Int)) = false := decide_eq_false (by omega)
          have HM := hide (show m0 ≤ 100 by omega)
          have hm100 : m0 ≤ 100 := by omega
          clear h100
          go_wp2
          clear d1
          go_loopw [10, 11] (fun od i wr => ∃ (j : Nat) (vc : Value) (C : List Ch) (b : Bool) (at_ e : Nat), j ≤ m0 ∧ od = .bool b ∧ i = .int .i64 j ∧ OwT wr w.heap.size tI vi L ∧ OwC wr w.heap.size vc C ∧ Hid (C.length = j) ∧ QS w wr R Z G P bs at_ e [vi, .string ⟨a.toArray⟩, .string ⟨o.toArray⟩, vc] ∧ Hid (rdChs m0 (bs.drop at5) e5 = ((C ++ (rdChs (m0 - j) (bs.drop at_) e).1.1, b || (rdChs (m0 - j) (bs.drop at_) e).1.2), (rdChs (m0 - j) (bs.drop at_) e).2))) (fun _ i _ => m0 - (intOf i).toNat)
          case atStart => exact ⟨0, _, [], false, at5, e5, Nat.zero_le _, rfl, rfl, Hown8.out, OwC.nil _ _, by show Hid _; exact hide rfl, Q8.out, by show Hid _; exact hide (by rw [List.nil_append, Nat.sub_zero, Bool.false_or])⟩
          case round =>
            obtain ⟨j, vc, C, b, at9, e9, hj, rfl, rfl, hown, hoc, HLc, hq, HF⟩ := hrel
            have Hown9 := hide hown
            have Hoc9 := hide hoc
            have Q9 := hide hq
            clear hown hoc hq Q8 Hown8
            by_cases hlt : j < m0
            · by_cases he9 : e9 = 0
              · subst he9
                have cf := Q9.out.fail
                obtain ⟨q, hqq⟩ : ∃ x, x = wr.heap.size := ⟨_, rfl⟩
                obtain ⟨w10, hw10⟩ : ∃ z, z = wr.alloc (.cells #[.string ⟨#[]⟩, .bool false, .string ⟨#[]⟩] tC) := ⟨_, rfl⟩
                have hr10 := Row.fresh wr tC #[.string ⟨#[]⟩, .bool false, .string ⟨#[]⟩]
                rw [← hw10, ← hqq] at hr10
                have b10 : Below wr.heap.size wr w10 := by rw [hw10]; exact (Below.refl _ wr).alloc (Nat.le_refl _) _
                have HN := hide (Q9.out.new (q := q) (by rw [hqq]; exact Nat.le_refl _))
                have Hv := hide (show ∀ x, vc.ownBlock = some x → x ≠ q from fun x hx e => by have := (World.ownsRow.lt Hoc9.out x hx).2; omega)
                have Q10 := hide (Q9.out.keep b10)
                have R10 := hide hr10
                have Hown10 := hide (show OwT w10 w.heap.size tI vi L from OwT.kept Hown9.out b10)
                have Hoc10 := hide (show OwC w10 w.heap.size vc C from OwC.keep Hoc9.out b10)
                have W10 := hide hw10
                have HQ10 := hide hqq
                clear hr10 b10 hw10 hqq Q9 Hown9 Hoc9
                go_wp2_with fail
                rw [← W10.out, ← HQ10.out]
                clear cf W10 HQ10
                refine (rread_text 200 Q10.out.rd (by omega)).mono ?_
                rintro y w11 ⟨v11, at10, e10, rfl, hv, hr, hst, ho⟩
                obtain ⟨p, ha⟩ : ∃ t, t = (stepText (bs.drop at9) 0 200).1 := ⟨_, rfl⟩
                rw [← ha] at hv
                have HS10 := hide (show stepText (bs.drop at9) 0 200 = (p, bs.drop at10, e10) from Prod.ext ha.symm hst)
                have hq := Q10.out.turned hr ho
                have hrq := R10.out.only ho (Ne.symm HN.out.2.2.2.1)
                have hown : OwT w11 w.heap.size tI vi L := Q10.out.owned Hown10.out (by decide) ho
                have hoc : OwC w11 w.heap.size vc C := Q10.out.owned Hoc10.out (by decide) ho
                have hc := hv.text 28 9 5 Tryd.underlying28 Tryd.underlying5 Tryd.underlying9
                obtain ⟨A11, c11, rfl, _⟩ := hv.sl
                obtain ⟨nt11, hnt⟩ : ∃ z, z = p.length := ⟨_, rfl⟩
                rw [← hnt] at hc ⊢
                have cp := hrq.cell 0
                have fp := hrq.free 0
                simp only [List.getElem?_cons_zero] at cp
                obtain ⟨w12, hwn⟩ : ∃ z, z = w11.setCell ⟨q, 0, none⟩ (.string ⟨p.toArray⟩) := ⟨_, rfl⟩
                have Q12 := hide (hq.putO HN.out 0 (.string ⟨p.toArray⟩))
                have R12 := hide (hrq.put 0 (.string ⟨p.toArray⟩))
                have Hown12 := hide (show OwT (w11.setCell ⟨q, 0, none⟩ (.string ⟨p.toArray⟩)) w.heap.size tI vi L from rw_put hown (rw_ne hrq (by decide) hown) _)
                have Hoc12 := hide (show OwC (w11.setCell ⟨q, 0, none⟩ (.string ⟨p.toArray⟩)) w.heap.size vc C from rw_put hoc Hv.out _)
                rw [← hwn] at Q12 R12 Hown12 Hoc12
                have W12 := hide hwn
                clear hv hr hst ho ha hq hrq hown hoc hnt hwn Q10 R10 Hown10 Hoc10
                go_wp2_with (first | rw [← W12.out] | fail)
                clear hc cp fp W12
                refine (rread_num Q12.out.rd).mono ?_
                rintro y w13 ⟨g, at11, e11, rfl, hr, hst, ho⟩
                have HS12 := hide hst
                have hq := Q12.out.turned hr ho
                have hrq := R12.out.only ho (Ne.symm HN.out.2.2.2.1)
                have hown : OwT w13 w.heap.size tI vi L := Q12.out.owned Hown12.out (by decide) ho
                have hoc : OwC w13 w.heap.size vc C := Q12.out.owned Hoc12.out (by decide) ho
                obtain ⟨gb, hgb⟩ : ∃ x, x = decide (g = 1) := ⟨_, rfl⟩
                obtain ⟨og, hog⟩ : ∃ x, x = decide (1 < g) := ⟨_, rfl⟩
                have g1 : ((g : Int) == 1) = gb := by rw [hgb, Bool.eq_iff_iff, beq_iff_eq, decide_eq_true_eq]; omega
                have g2 : decide ((g : Int) = 1) = gb := by rw [hgb, decide_eq_decide]; omega
                have g3 : decide (1 < (g : Int)) = og := by rw [hog, decide_eq_decide]; omega
                have HGB := hide hgb
                have HOG := hide hog
                clear hgb hog
                have cp := hrq.cell 1
                have fp := hrq.free 1
                simp only [List.getElem?_cons_zero, List.getElem?_cons_succ, List.set_cons_zero] at cp
                obtain ⟨w14, hwn⟩ : ∃ z, z = w13.setCell ⟨q, 1, none⟩ (.bool gb) := ⟨_, rfl⟩
                have Q14 := hide (hq.putO HN.out 1 (.bool gb))
                have R14 := hide (hrq.put 1 (.bool gb))
                have Hown14 := hide (show OwT (w13.setCell ⟨q, 1, none⟩ (.bool gb)) w.heap.size tI vi L from rw_put hown (rw_ne hrq (by decide) hown) _)
                have Hoc14 := hide (show OwC (w13.setCell ⟨q, 1, none⟩ (.bool gb)) w.heap.size vc C from rw_put hoc Hv.out _)
                rw [← hwn] at Q14 R14 Hown14 Hoc14
                have W14 := hide hwn
                clear hr hst ho hq hrq hown hoc hwn Q12 R12 Hown12 Hoc12
                cases b with
                | true =>
                  go_wp2_with (first | rw [← W14.out] | fail)
                  clear cp fp W14 g1 g2 g3
                  refine (rread_text 65536 Q14.out.rd (by omega)).mono ?_
                  rintro y w15 ⟨v15, at12, e12, rfl, hv, hr, hst, ho⟩
                  obtain ⟨x, ha⟩ : ∃ t, t = (stepText (bs.drop at11) e11 65536).1 := ⟨_, rfl⟩
                  rw [← ha] at hv
                  have HS14 := hide (show stepText (bs.drop at11) e11 65536 = (x, bs.drop at12, e12) from Prod.ext ha.symm hst)
                  have hq := Q14.out.turned hr ho
                  have hrq := R14.out.only ho (Ne.symm HN.out.2.2.2.1)
                  have hown : OwT w15 w.heap.size tI vi L := Q14.out.owned Hown14.out (by decide) ho
                  have hoc : OwC w15 w.heap.size vc C := Q14.out.owned Hoc14.out (by decide) ho
                  have hc := hv.text 28 9 5 Tryd.underlying28 Tryd.underlying5 Tryd.underlying9
                  obtain ⟨A15, c15, rfl, _⟩ := hv.sl
                  obtain ⟨nt15, hnt⟩ : ∃ z, z = x.length := ⟨_, rfl⟩
                  rw [← hnt] at hc ⊢
                  have cp := hrq.cell 2
                  have fp := hrq.free 2
                  simp only [List.getElem?_cons_zero, List.getElem?_cons_succ, List.set_cons_zero, List.set_cons_succ] at cp
                  obtain ⟨w16, hwn⟩ : ∃ z, z = w15.setCell ⟨q, 2, none⟩ (.string ⟨x.toArray⟩) := ⟨_, rfl⟩
                  have Q16 := hide (hq.putO HN.out 2 (.string ⟨x.toArray⟩))
                  have R16 := hide (hrq.put 2 (.string ⟨x.toArray⟩))
                  have Hown16 := hide (show OwT (w15.setCell ⟨q, 2, none⟩ (.string ⟨x.toArray⟩)) w.heap.size tI vi L from rw_put hown (rw_ne hrq (by decide) hown) _)
                  have Hoc16 := hide (show OwC (w15.setCell ⟨q, 2, none⟩ (.string ⟨x.toArray⟩)) w.heap.size vc C from rw_put hoc Hv.out _)
                  rw [← hwn] at Q16 R16 Hown16 Hoc16
                  have W16 := hide hwn
                  clear hv hr hst ho ha hq hrq hown hoc hnt hwn Q14 R14 Hown14 Hoc14
                  have HFn := hide (show rdChs m0 (bs.drop at5) e5 = (((C ++ [⟨p, gb, x⟩]) ++ (rdChs (m0 - (j + 1)) (bs.drop at12) e12).1.1, true || (rdChs (m0 - (j + 1)) (bs.drop at12) e12).1.2), (rdChs (m0 - (j + 1)) (bs.drop at12) e12).2) by
                    rw [HF.out, show m0 - j = (m0 - (j + 1)) + 1 by omega, rdChs]
                    simp only [HS10.out, HS12.out, HS14.out, ← HGB.out, ← HOG.out]
                    rw [List.append_assoc]
                    simp)
                  have HLn : Hid ((C ++ [(⟨p, gb, x⟩ : Ch)]).length = j + 1) := hide (by rw [List.length_append, HLc.out]; rfl)
                  have k3 := Q16.out.p.cell 3
                  have t0 := R16.out.cell 0
                  have t1 := R16.out.cell 1
                  have t2 := R16.out.cell 2
                  simp only [List.getElem?_cons_zero, List.getElem?_cons_succ, List.set_cons_zero, List.set_cons_succ] at k3 t0 t1 t2
                  clear HF HS10 HS12 HS14 HGB HOG R16
                  go_wp2_with (first | rw [← W16.out] | (at_builtin; go_loud (refine wpList_pushC (W := w16) rfl (.tmp 98) (.tmp 100) rfl w.heap.size w vc C ⟨p, gb, x⟩ _ rfl rfl rfl Hoc16.out (by rw [HLc.out]; omega) Q16.out.low Q16.out.low.size ?_; intro v17 w17 hoc17 hb17 hg17; obtain ⟨A17, c17, e17, _⟩ := hoc17.fls; obtain ⟨n17, hn17⟩ : ∃ z, z = (C ++ [(⟨p, gb, x⟩ : Ch)]).length := ⟨_, rfl⟩; rw [← hn17] at e17; subst e17; have hq17 := Q16.out.grown hg17 Hoc16.out (by decide) (by decide); have hown17 : OwT w17 w.heap.size tI vi L := rw_grown Hown16.out hg17 (fun y hy e => by rcases rw_two Hoc16.out Hown16.out (by decide) with h | h; (rw [h] at hy; cases hy); exact h (hy.trans e)); have cp17 := hq17.p.cell 3; have fp17 := hq17.p.free 3; simp only [List.getElem?_cons_zero, List.getElem?_cons_succ] at cp17; have Q17 := hide hq17; have Hown17 := hide hown17; have Hoc17 := hide hoc17; clear hq17 hown17 hoc17 hb17 hg17 hn17 k3 t0 t1 t2)) | fail)
                  have hown18 : OwT (w17.setCell ⟨P, 3, none⟩ (.slice A17 n17 c17)) w.heap.size tI vi L := rw_put Hown17.out (rw_ne Q17.out.p (by decide) Hown17.out) _
                  have hoc18 : OwC (w17.setCell ⟨P, 3, none⟩ (.slice A17 n17 c17)) w.heap.size (.slice A17 n17 c17) (C ++ [⟨p, gb, x⟩]) := rw_put Hoc17.out (rw_ne Q17.out.p (by decide) Hoc17.out) _
                  exact ⟨⟨j + 1, _, C ++ [⟨p, gb, x⟩], true, at12, e12, by omega, rfl, by go_num, hown18, hoc18, HLn, Q17.out.putP 3 _, HFn⟩, by simp [intOf]; omega⟩
                | false =>
                  go_wp2_with (first | rw [← W14.out] | fail)
                  clear cp fp W14 g1 g2 g3
                  refine (rread_text 65536 Q14.out.rd (by omega)).mono ?_
                  rintro y w15 ⟨v15, at12, e12, rfl, hv, hr, hst, ho⟩
                  obtain ⟨x, ha⟩ : ∃ t, t = (stepText (bs.drop at11) e11 65536).1 := ⟨_, rfl⟩
                  rw [← ha] at hv
                  have HS14 := hide (show stepText (bs.drop at11) e11 65536 = (x, bs.drop at12, e12) from Prod.ext ha.symm hst)
                  have hq := Q14.out.turned hr ho
                  have hrq := R14.out.only ho (Ne.symm HN.out.2.2.2.1)
                  have hown : OwT w15 w.heap.size tI vi L := Q14.out.owned Hown14.out (by decide) ho
                  have hoc : OwC w15 w.heap.size vc C := Q14.out.owned Hoc14.out (by decide) ho
                  have hc := hv.text 28 9 5 Tryd.underlying28 Tryd.underlying5 Tryd.underlying9
                  obtain ⟨A15, c15, rfl, _⟩ := hv.sl
                  obtain ⟨nt15, hnt⟩ : ∃ z, z = x.length := ⟨_, rfl⟩
                  rw [← hnt] at hc ⊢
                  have cp := hrq.cell 2
                  have fp := hrq.free 2
                  simp only [List.getElem?_cons_zero, List.getElem?_cons_succ, List.set_cons_zero, List.set_cons_succ] at cp
                  obtain ⟨w16, hwn⟩ : ∃ z, z = w15.setCell ⟨q, 2, none⟩ (.string ⟨x.toArray⟩) := ⟨_, rfl⟩
                  have Q16 := hide (hq.putO HN.out 2 (.string ⟨x.toArray⟩))
                  have R16 := hide (hrq.put 2 (.string ⟨x.toArray⟩))
                  have Hown16 := hide (show OwT (w15.setCell ⟨q, 2, none⟩ (.string ⟨x.toArray⟩)) w.heap.size tI vi L from rw_put hown (rw_ne hrq (by decide) hown) _)
                  have Hoc16 := hide (show OwC (w15.setCell ⟨q, 2, none⟩ (.string ⟨x.toArray⟩)) w.heap.size vc C from rw_put hoc Hv.out _)
                  rw [← hwn] at Q16 R16 Hown16 Hoc16
                  have W16 := hide hwn
                  clear hv hr hst ho ha hq hrq hown hoc hnt hwn Q14 R14 Hown14 Hoc14
                  have HFn := hide (show rdChs m0 (bs.drop at5) e5 = (((C ++ [⟨p, gb, x⟩]) ++ (rdChs (m0 - (j + 1)) (bs.drop at12) e12).1.1, og || (rdChs (m0 - (j + 1)) (bs.drop at12) e12).1.2), (rdChs (m0 - (j + 1)) (bs.drop at12) e12).2) by
                    rw [HF.out, show m0 - j = (m0 - (j + 1)) + 1 by omega, rdChs]
                    simp only [HS10.out, HS12.out, HS14.out, ← HGB.out, ← HOG.out]
                    rw [List.append_assoc]
                    simp)
                  have HLn : Hid ((C ++ [(⟨p, gb, x⟩ : Ch)]).length = j + 1) := hide (by rw [List.length_append, HLc.out]; rfl)
                  have k3 := Q16.out.p.cell 3
                  have t0 := R16.out.cell 0
                  have t1 := R16.out.cell 1
                  have t2 := R16.out.cell 2
                  simp only [List.getElem?_cons_zero, List.getElem?_cons_succ, List.set_cons_zero, List.set_cons_succ] at k3 t0 t1 t2
                  clear HF HS10 HS12 HS14 HGB HOG R16
                  go_wp2_with (first | rw [← W16.out] | (at_builtin; go_loud (refine wpList_pushC (W := w16) rfl (.tmp 98) (.tmp 100) rfl w.heap.size w vc C ⟨p, gb, x⟩ _ rfl rfl rfl Hoc16.out (by rw [HLc.out]; omega) Q16.out.low Q16.out.low.size ?_; intro v17 w17 hoc17 hb17 hg17; obtain ⟨A17, c17, e17, _⟩ := hoc17.fls; obtain ⟨n17, hn17⟩ : ∃ z, z = (C ++ [(⟨p, gb, x⟩ : Ch)]).length := ⟨_, rfl⟩; rw [← hn17] at e17; subst e17; have hq17 := Q16.out.grown hg17 Hoc16.out (by decide) (by decide); have hown17 : OwT w17 w.heap.size tI vi L := rw_grown Hown16.out hg17 (fun y hy e => by rcases rw_two Hoc16.out Hown16.out (by decide) with h | h; (rw [h] at hy; cases hy); exact h (hy.trans e)); have cp17 := hq17.p.cell 3; have fp17 := hq17.p.free 3; simp only [List.getElem?_cons_zero, List.getElem?_cons_succ] at cp17; have Q17 := hide hq17; have Hown17 := hide hown17; have Hoc17 := hide hoc17; clear hq17 hown17 hoc17 hb17 hg17 hn17 k3 t0 t1 t2)) | fail)
                  have hown18 : OwT (w17.setCell ⟨P, 3, none⟩ (.slice A17 n17 c17)) w.heap.size tI vi L := rw_put Hown17.out (rw_ne Q17.out.p (by decide) Hown17.out) _
                  have hoc18 : OwC (w17.setCell ⟨P, 3, none⟩ (.slice A17 n17 c17)) w.heap.size (.slice A17 n17 c17) (C ++ [⟨p, gb, x⟩]) := rw_put Hoc17.out (rw_ne Q17.out.p (by decide) Hoc17.out) _
                  exact ⟨⟨j + 1, _, C ++ [⟨p, gb, x⟩], og, at12, e12, by omega, rfl, by go_num, hown18, hoc18, HLn, Q17.out.putP 3 _, HFn⟩, by simp [intOf]; omega⟩
              · have HC := hide (show rdChs m0 (bs.drop at5) e5 = ((C ++ (rdChs (m0 - j) (bs.drop at9) e9).1.1, b || (rdChs (m0 - j) (bs.drop at9) e9).1.2), bs.drop at9, e9) from by rw [HF.out, chs_bad he9])
                have HCL := hide (show e9 = 0 → C ++ (rdChs (m0 - j) (bs.drop at9) e9).1.1 = C ∧ (b || (rdChs (m0 - j) (bs.drop at9) e9).1.2) = b from fun h => absurd h he9)
                generalize C ++ (rdChs (m0 - j) (bs.drop at9) e9).1.1 = chs at HC HCL
                generalize (b || (rdChs (m0 - j) (bs.drop at9) e9).1.2) = o6 at HC HCL
                have hz1 : ((e9 : Int) == 0) = false := by rw [beq_eq_false_iff_ne]; omega
                have hz2 : decide ((e9 : Int) = 0) = false := decide_eq_false (by omega)
                have cf := Q9.out.fail
                have HLs2 := hide (show C.length ≤ 100 by rw [HLc.out]; omega)
                clear HF HLc
                go_wp2_with fail
                clear hz1 hz2 cf
                refine (rend_any Q9.out.rd).mono ?_
                rintro y w19 ⟨rfl, n19, hw19⟩
                have Q19 := hide (show QS w w19 R Z G P bs at9 e9 [vi, .string ⟨a.toArray⟩, .string ⟨o.toArray⟩, vc] from by rw [hw19]; exact Q9.out.turned (Q9.out.rd.drewN n19) ((Only.refl _ _).drewN n19))
                have Hown19 := hide (show OwT w19 w.heap.size tI vi L from by rw [hw19]; exact OwT.drewN Hown9.out n19)
                have Hoc19 := hide (show OwC w19 w.heap.size vc C from by rw [hw19]; exact OwC.drewN Hoc9.out n19)
                have HEnd := hide (show endOf (bs.drop at9) e9 = 0 → e9 = 0 from fun h => by
                  by_cases h9 : e9 = 0
                  · exact h9
                  · rw [endOf, if_neg h9] at h; exact h)
                have HPD := hide (show pdecode bs = if endOf (bs.drop at9) e9 ≠ 0 then (noPch, endOf (bs.drop at9) e9) else if (o6 || !pright ⟨ids, a, o, chs⟩) = true then (noPch, 3) else (⟨ids, a, o, chs⟩, 0) from by
                  rw [pdecode_rd HST.out (n := n0) (by rw [if_neg (by have := HN16.out; omega)]) HI.out HT4.out HT6.out HNm.out (m := m0) (by rw [if_neg (by have := HM.out; omega)]) HC.out (by have := HL.out; omega), decide_eq_false (show ¬ 16 < n0 by have := HN16.out; omega), decide_eq_false (show ¬ 100 < m0 by have := HM.out; omega)]
                  rfl)
                have HE2 := hide (show e9 = 0 → e2 = 0 from fun h9 => by
                  apply Classical.byContradiction
                  intro h
                  have x3 : e3 = e2 := by have := HT4.out; rw [step_bad h] at this; exact (congrArg (fun z => z.2.2) this).symm
                  have x4 : e4 = e3 := by have := HT6.out; rw [step_bad (by omega)] at this; exact (congrArg (fun z => z.2.2) this).symm
                  have x5 : e5 = e4 := by have := HNm.out; rw [step_bad_num (by omega)] at this; exact (congrArg (fun z => z.2.2) this).symm
                  have x9 : e9 = e5 := by have := congrArg Prod.snd HC.out; rw [chs_bad (by omega)] at this; exact (congrArg Prod.snd this).symm
                  omega)
                have hli := (ids_short n0 (bs.drop at1) e1).1
                have hlc := chs_short m0 (bs.drop at5) e5
                have hla := (text_short (bs.drop at2) e2 100).1
                have hlo := (text_short (bs.drop at3) e3 1000).1
                rw [HI.out] at hli
                rw [HC.out] at hlc
                rw [HT4.out] at hla
                rw [HT6.out] at hlo
                simp only [List.length_drop] at hli hlc hla hlo
                have HLi := hide hli
                have HLc2 := hide hlc
                have HLa := hide hla
                have HLo := hide hlo
                clear hw19 Q9 Hown9 Hoc9 HST HI HT4 HT6 HNm HC hli hlc hla hlo
                generalize endOf (bs.drop at9) e9 = x at HEnd HPD ⊢
                by_cases hx0 : x = 0
                · have d1 : ((x : Int) != 0) = false := by rw [bne_eq_false_iff_eq]; omega
                  have d2 : decide ((x : Int) = 0) = true := decide_eq_true (by omega)
                  have h9 := HEnd.out hx0
                  obtain ⟨hc1, hc2⟩ := HCL.out h9
                  have hids := HIL.out (HE2.out h9)
                  rw [hids, hc1, hc2] at HPD
                  rw [hids] at HLi
                  rw [hc1] at HLc2
                  obtain ⟨Ai, ci, ei, hv1⟩ := Hown19.out.vs
                  obtain ⟨Ac, cc, ec, hv2⟩ := Hoc19.out.fls
                  subst ei
                  subst ec
                  have hpin : PIn w19 ⟨L, a, o, C⟩ Ai Ac ci cc := ⟨⟨hv1.1, fun h => by obtain ⟨b, oo, k1, _, k2⟩ := hv1.2 h; exact ⟨b, oo, k1, trivial, k2⟩⟩, hv2, fun q hq => by have := HLi.out q hq; have := HL.out; omega, fun f hf => by have := HLc2.out f hf; have := HL.out; omega, by have := HLs.out; show L.length ≤ _; omega, by have := HLa.out; have := HL.out; show a.length ≤ _; omega, by have := HLo.out; have := HL.out; show o.length ≤ _; omega, by have := HLs2.out; show C.length ≤ _; omega⟩
                  have HRt := hide (show Calls Tryd.prog 16 #[.agg #[.slice Ai L.length ci, .string ⟨a.toArray⟩, .string ⟨o.toArray⟩, .slice Ac C.length cc]] w19 _ from rright12_any ⟨L, a, o, C⟩ Ai Ac ci cc w19 hpin)
                  generalize pright ⟨L, a, o, C⟩ = pr at HRt HPD
                  have p0 := Q19.out.p.cell 0
                  have p1 := Q19.out.p.cell 1
                  have p2 := Q19.out.p.cell 2
                  have p3 := Q19.out.p.cell 3
                  simp only [List.getElem?_cons_zero, List.getElem?_cons_succ] at p0 p1 p2 p3
                  obtain ⟨nL, hnL⟩ : ∃ z, z = L.length := ⟨_, rfl⟩
                  obtain ⟨nC, hnC⟩ : ∃ z, z = C.length := ⟨_, rfl⟩
                  rw [← hnL] at Q19 Hown19 HRt p0
                  rw [← hnC] at Q19 Hoc19 HRt p3
                  clear hids hc1 hc2 h9 HEnd HCL HIL HE2 HLi HLc2 HLa HLo hv1 hv2 hpin HLs HLs2 hnL hnC
                  go_wp2_with fail
                  clear d1 d2 p0 p1 p2 p3
                  refine HRt.out.mono ?_
                  rintro y w20 ⟨rfl, hb20⟩
                  have Q20 := hide (Q19.out.keep hb20)
                  have Hown20 := hide (show OwT w20 w.heap.size tI (.slice Ai nL ci) L from OwT.kept Hown19.out hb20)
                  have Hoc20 := hide (show OwC w20 w.heap.size (.slice Ac nC cc) C from OwC.keep Hoc19.out hb20)
                  clear hb20 HRt Q19 Hown19 Hoc19
                  cases b with
                  | true =>
                    have HD := hide (show pdecode bs = (noPch, 3) from by
                      rw [HPD.out, if_neg (by omega), if_pos (by simp)])
                    have z0 := Q20.out.z.cell 0
                    have z1 := Q20.out.z.cell 1
                    have z2 := Q20.out.z.cell 2
                    have z3 := Q20.out.z.cell 3
                    have s0 := Q20.out.r.cell 0
                    have s1 := Q20.out.r.cell 1
                    have s2 := Q20.out.r.cell 2
                    have s3 := Q20.out.r.cell 3
                    have f0 := Q20.out.r.free 0
                    have f1 := Q20.out.r.free 1
                    have f2 := Q20.out.r.free 2
                    have f3 := Q20.out.r.free 3
                    have hr0 := Q20.out.ne.2.2.2.2.2.1
                    simp only [List.getElem?_cons_zero, List.getElem?_cons_succ] at z0 z1 z2 z3 s0 s1 s2 s3
                    have HR0 := hide hr0
                    clear hr0 HPD
                    go_wp2
                    have hrf := (((Q20.out.r.put 0 (.slice none 0 0)).put 1 (.string ⟨#[]⟩)).put 2 (.string ⟨#[]⟩)).put 3 (.slice none 0 0)
                    exact bodyPost_ret (results_cr rfl _ _ R tP #[.slice none 0 0, .string ⟨#[]⟩, .string ⟨#[]⟩, .slice none 0 0] (0, 0) _ rfl hrf Tryd.underlying25 rfl sizePt) rfl ⟨_, _, by rw [HD.out]; rfl, by rw [HD.out]; exact OwT.nil _ _ _, by rw [HD.out]; exact OwC.nil _ _, below_put (below_put (below_put (below_put Q20.out.low HR0.out _) HR0.out _) HR0.out _) HR0.out _⟩
                  | false =>
                    cases pr with
                    | false =>
                      have HD := hide (show pdecode bs = (noPch, 3) from by
                        rw [HPD.out, if_neg (by omega), if_pos (by simp)])
                      have z0 := Q20.out.z.cell 0
                      have z1 := Q20.out.z.cell 1
                      have z2 := Q20.out.z.cell 2
                      have z3 := Q20.out.z.cell 3
                      have s0 := Q20.out.r.cell 0
                      have s1 := Q20.out.r.cell 1
                      have s2 := Q20.out.r.cell 2
                      have s3 := Q20.out.r.cell 3
                      have f0 := Q20.out.r.free 0
                      have f1 := Q20.out.r.free 1
                      have f2 := Q20.out.r.free 2
                      have f3 := Q20.out.r.free 3
                      have hr0 := Q20.out.ne.2.2.2.2.2.1
                      simp only [List.getElem?_cons_zero, List.getElem?_cons_succ] at z0 z1 z2 z3 s0 s1 s2 s3
                      have HR0 := hide hr0
                      clear hr0 HPD
                      go_wp2
                      have hrf := (((Q20.out.r.put 0 (.slice none 0 0)).put 1 (.string ⟨#[]⟩)).put 2 (.string ⟨#[]⟩)).put 3 (.slice none 0 0)
                      exact bodyPost_ret (results_cr rfl _ _ R tP #[.slice none 0 0, .string ⟨#[]⟩, .string ⟨#[]⟩, .slice none 0 0] (0, 0) _ rfl hrf Tryd.underlying25 rfl sizePt) rfl ⟨_, _, by rw [HD.out]; rfl, by rw [HD.out]; exact OwT.nil _ _ _, by rw [HD.out]; exact OwC.nil _ _, below_put (below_put (below_put (below_put Q20.out.low HR0.out _) HR0.out _) HR0.out _) HR0.out _⟩
                    | true =>
                      have HD := hide (show pdecode bs = (⟨L, a, o, C⟩, 0) from by
                        rw [HPD.out, if_neg (by omega), if_neg (by simp)])
                      have p0 := Q20.out.p.cell 0
                      have p1 := Q20.out.p.cell 1
                      have p2 := Q20.out.p.cell 2
                      have p3 := Q20.out.p.cell 3
                      have s0 := Q20.out.r.cell 0
                      have s1 := Q20.out.r.cell 1
                      have s2 := Q20.out.r.cell 2
                      have s3 := Q20.out.r.cell 3
                      have f0 := Q20.out.r.free 0
                      have f1 := Q20.out.r.free 1
                      have f2 := Q20.out.r.free 2
                      have f3 := Q20.out.r.free 3
                      have HR0 := hide Q20.out.ne.2.2.2.2.2.1
                      simp only [List.getElem?_cons_zero, List.getElem?_cons_succ] at p0 p1 p2 p3 s0 s1 s2 s3
                      clear HPD hx0
                      go_wp2
                      have hrf := (((Q20.out.r.put 0 (.slice Ai nL ci)).put 1 (.string ⟨a.toArray⟩)).put 2 (.string ⟨o.toArray⟩)).put 3 (.slice Ac nC cc)
                      have hfin : ∀ (wz : World) (i : Nat) (u : Value), OwT wz w.heap.size tI (.slice Ai nL ci) L ∧ OwC wz w.heap.size (.slice Ac nC cc) C ∧ (∃ cs, Row wz R tP cs) →
                          OwT (wz.setCell ⟨R, i, none⟩ u) w.heap.size tI (.slice Ai nL ci) L ∧ OwC (wz.setCell ⟨R, i, none⟩ u) w.heap.size (.slice Ac nC cc) C ∧ (∃ cs, Row (wz.setCell ⟨R, i, none⟩ u) R tP cs) := by
                        rintro wz i u ⟨k1, k2, cs, k5⟩
                        exact ⟨rw_put k1 (rw_ne k5 (by decide) k1) _, rw_put k2 (rw_ne k5 (by decide) k2) _, _, k5.put i u⟩
                      have hf9 := hfin _ 3 (.slice Ac nC cc) (hfin _ 2 (.string ⟨o.toArray⟩) (hfin _ 1 (.string ⟨a.toArray⟩) (hfin _ 0 (.slice Ai nL ci) ⟨Hown20.out, Hoc20.out, _, Q20.out.r⟩)))
                      exact bodyPost_ret (results_cr rfl _ _ R tP #[.slice Ai nL ci, .string ⟨a.toArray⟩, .string ⟨o.toArray⟩, .slice Ac nC cc] (0, 0) _ rfl hrf Tryd.underlying25 rfl sizePt) rfl ⟨_, _, by rw [HD.out]; rfl, by rw [HD.out]; exact hf9.1, by rw [HD.out]; exact hf9.2.1, below_put (below_put (below_put (below_put Q20.out.low HR0.out _) HR0.out _) HR0.out _) HR0.out _⟩
                · have d1 : ((x : Int) != 0) = true := by rw [bne_iff_ne]; omega
                  have d2 : decide ((x : Int) = 0) = false := decide_eq_false (by omega)
                  have HD := hide (show pdecode bs = (noPch, x) from by
                    rw [HPD.out, if_pos hx0])
                  have z0 := Q19.out.z.cell 0
                  have z1 := Q19.out.z.cell 1
                  have z2 := Q19.out.z.cell 2
                  have z3 := Q19.out.z.cell 3
                  have s0 := Q19.out.r.cell 0
                  have s1 := Q19.out.r.cell 1
                  have s2 := Q19.out.r.cell 2
                  have s3 := Q19.out.r.cell 3
                  have f0 := Q19.out.r.free 0
                  have f1 := Q19.out.r.free 1
                  have f2 := Q19.out.r.free 2
                  have f3 := Q19.out.r.free 3
                  have hr0 := Q19.out.ne.2.2.2.2.2.1
                  simp only [List.getElem?_cons_zero, List.getElem?_cons_succ] at z0 z1 z2 z3 s0 s1 s2 s3
                  have HR0 := hide hr0
                  clear hr0 HPD HEnd HCL HIL HE2 HLi HLc2 HLa HLo hx0
                  go_wp2
                  have hrf := (((Q19.out.r.put 0 (.slice none 0 0)).put 1 (.string ⟨#[]⟩)).put 2 (.string ⟨#[]⟩)).put 3 (.slice none 0 0)
                  exact bodyPost_ret (results_cr rfl _ _ R tP #[.slice none 0 0, .string ⟨#[]⟩, .string ⟨#[]⟩, .slice none 0 0] (0, 0) _ rfl hrf Tryd.underlying25 rfl sizePt) rfl ⟨_, _, by rw [HD.out]; rfl, by rw [HD.out]; exact OwT.nil _ _ _, by rw [HD.out]; exact OwC.nil _ _, below_put (below_put (below_put (below_put Q19.out.low HR0.out _) HR0.out _) HR0.out _) HR0.out _⟩
            · have HC := hide (show rdChs m0 (bs.drop at5) e5 = ((C, b), bs.drop at9, e9) from by rw [HF.out, show m0 - j = 0 by omega]; simp [rdChs])
              obtain ⟨chs, hchs⟩ : ∃ x, x = C := ⟨_, rfl⟩
              obtain ⟨o6, ho6⟩ : ∃ x, x = b := ⟨_, rfl⟩
              have HC := hide (show rdChs m0 (bs.drop at5) e5 = ((chs, o6), bs.drop at9, e9) from by rw [hchs, ho6]; exact HC.out)
              have HCL := hide (show e9 = 0 → chs = C ∧ o6 = b from fun _ => ⟨hchs, ho6⟩)
              have HLs2 := hide (show C.length ≤ 100 by rw [HLc.out]; omega)
              clear HF HLc hchs ho6
              go_wp2_with fail
              refine (rend_any Q9.out.rd).mono ?_
              rintro y w19 ⟨rfl, n19, hw19⟩
              have Q19 := hide (show QS w w19 R Z G P bs at9 e9 [vi, .string ⟨a.toArray⟩, .string ⟨o.toArray⟩, vc] from by rw [hw19]; exact Q9.out.turned (Q9.out.rd.drewN n19) ((Only.refl _ _).drewN n19))
              have Hown19 := hide (show OwT w19 w.heap.size tI vi L from by rw [hw19]; exact OwT.drewN Hown9.out n19)
              have Hoc19 := hide (show OwC w19 w.heap.size vc C from by rw [hw19]; exact OwC.drewN Hoc9.out n19)
              have HEnd := hide (show endOf (bs.drop at9) e9 = 0 → e9 = 0 from fun h => by
                by_cases h9 : e9 = 0
                · exact h9
                · rw [endOf, if_neg h9] at h; exact h)
              have HPD := hide (show pdecode bs = if endOf (bs.drop at9) e9 ≠ 0 then (noPch, endOf (bs.drop at9) e9) else if (o6 || !pright ⟨ids, a, o, chs⟩) = true then (noPch, 3) else (⟨ids, a, o, chs⟩, 0) from by
                rw [pdecode_rd HST.out (n := n0) (by rw [if_neg (by have := HN16.out; omega)]) HI.out HT4.out HT6.out HNm.out (m := m0) (by rw [if_neg (by have := HM.out; omega)]) HC.out (by have := HL.out; omega), decide_eq_false (show ¬ 16 < n0 by have := HN16.out; omega), decide_eq_false (show ¬ 100 < m0 by have := HM.out; omega)]
                rfl)
              have HE2 := hide (show e9 = 0 → e2 = 0 from fun h9 => by
                apply Classical.byContradiction
                intro h
                have x3 : e3 = e2 := by have := HT4.out; rw [step_bad h] at this; exact (congrArg (fun z => z.2.2) this).symm
                have x4 : e4 = e3 := by have := HT6.out; rw [step_bad (by omega)] at this; exact (congrArg (fun z => z.2.2) this).symm
                have x5 : e5 = e4 := by have := HNm.out; rw [step_bad_num (by omega)] at this; exact (congrArg (fun z => z.2.2) this).symm
                have x9 : e9 = e5 := by have := congrArg Prod.snd HC.out; rw [chs_bad (by omega)] at this; exact (congrArg Prod.snd this).symm
                omega)
              have hli := (ids_short n0 (bs.drop at1) e1).1
              have hlc := chs_short m0 (bs.drop at5) e5
              have hla := (text_short (bs.drop at2) e2 100).1
              have hlo := (text_short (bs.drop at3) e3 1000).1
              rw [HI.out] at hli
              rw [HC.out] at hlc
              rw [HT4.out] at hla
              rw [HT6.out] at hlo
              simp only [List.length_drop] at hli hlc hla hlo
              have HLi := hide hli
              have HLc2 := hide hlc
              have HLa := hide hla
              have HLo := hide hlo
              clear hw19 Q9 Hown9 Hoc9 HST HI HT4 HT6 HNm HC hli hlc hla hlo
              generalize endOf (bs.drop at9) e9 = x at HEnd HPD ⊢
              by_cases hx0 : x = 0
              · have d1 : ((x : Int) != 0) = false := by rw [bne_eq_false_iff_eq]; omega
                have d2 : decide ((x : Int) = 0) = true := decide_eq_true (by omega)
                have h9 := HEnd.out hx0
                obtain ⟨hc1, hc2⟩ := HCL.out h9
                have hids := HIL.out (HE2.out h9)
                rw [hids, hc1, hc2] at HPD
                rw [hids] at HLi
                rw [hc1] at HLc2
                obtain ⟨Ai, ci, ei, hv1⟩ := Hown19.out.vs
                obtain ⟨Ac, cc, ec, hv2⟩ := Hoc19.out.fls
                subst ei
                subst ec
                have hpin : PIn w19 ⟨L, a, o, C⟩ Ai Ac ci cc := ⟨⟨hv1.1, fun h => by obtain ⟨b, oo, k1, _, k2⟩ := hv1.2 h; exact ⟨b, oo, k1, trivial, k2⟩⟩, hv2, fun q hq => by have := HLi.out q hq; have := HL.out; omega, fun f hf => by have := HLc2.out f hf; have := HL.out; omega, by have := HLs.out; show L.length ≤ _; omega, by have := HLa.out; have := HL.out; show a.length ≤ _; omega, by have := HLo.out; have := HL.out; show o.length ≤ _; omega, by have := HLs2.out; show C.length ≤ _; omega⟩
                have HRt := hide (show Calls Tryd.prog 16 #[.agg #[.slice Ai L.length ci, .string ⟨a.toArray⟩, .string ⟨o.toArray⟩, .slice Ac C.length cc]] w19 _ from rright12_any ⟨L, a, o, C⟩ Ai Ac ci cc w19 hpin)
                generalize pright ⟨L, a, o, C⟩ = pr at HRt HPD
                have p0 := Q19.out.p.cell 0
                have p1 := Q19.out.p.cell 1
                have p2 := Q19.out.p.cell 2
                have p3 := Q19.out.p.cell 3
                simp only [List.getElem?_cons_zero, List.getElem?_cons_succ] at p0 p1 p2 p3
                obtain ⟨nL, hnL⟩ : ∃ z, z = L.length := ⟨_, rfl⟩
                obtain ⟨nC, hnC⟩ : ∃ z, z = C.length := ⟨_, rfl⟩
                rw [← hnL] at Q19 Hown19 HRt p0
                rw [← hnC] at Q19 Hoc19 HRt p3
                clear hids hc1 hc2 h9 HEnd HCL HIL HE2 HLi HLc2 HLa HLo hv1 hv2 hpin HLs HLs2 hnL hnC
                go_wp2_with fail
                clear d1 d2 p0 p1 p2 p3
                refine HRt.out.mono ?_
                rintro y w20 ⟨rfl, hb20⟩
                have Q20 := hide (Q19.out.keep hb20)
                have Hown20 := hide (show OwT w20 w.heap.size tI (.slice Ai nL ci) L from OwT.kept Hown19.out hb20)
                have Hoc20 := hide (show OwC w20 w.heap.size (.slice Ac nC cc) C from OwC.keep Hoc19.out hb20)
                clear hb20 HRt Q19 Hown19 Hoc19
                cases b with
                | true =>
                  have HD := hide (show pdecode bs = (noPch, 3) from by
                    rw [HPD.out, if_neg (by omega), if_pos (by simp)])
                  have z0 := Q20.out.z.cell 0
                  have z1 := Q20.out.z.cell 1
                  have z2 := Q20.out.z.cell 2
                  have z3 := Q20.out.z.cell 3
                  have s0 := Q20.out.r.cell 0
                  have s1 := Q20.out.r.cell 1
                  have s2 := Q20.out.r.cell 2
                  have s3 := Q20.out.r.cell 3
                  have f0 := Q20.out.r.free 0
                  have f1 := Q20.out.r.free 1
                  have f2 := Q20.out.r.free 2
                  have f3 := Q20.out.r.free 3
                  have hr0 := Q20.out.ne.2.2.2.2.2.1
                  simp only [List.getElem?_cons_zero, List.getElem?_cons_succ] at z0 z1 z2 z3 s0 s1 s2 s3
                  have HR0 := hide hr0
                  clear hr0 HPD
                  go_wp2
                  have hrf := (((Q20.out.r.put 0 (.slice none 0 0)).put 1 (.string ⟨#[]⟩)).put 2 (.string ⟨#[]⟩)).put 3 (.slice none 0 0)
                  exact bodyPost_ret (results_cr rfl _ _ R tP #[.slice none 0 0, .string ⟨#[]⟩, .string ⟨#[]⟩, .slice none 0 0] (0, 0) _ rfl hrf Tryd.underlying25 rfl sizePt) rfl ⟨_, _, by rw [HD.out]; rfl, by rw [HD.out]; exact OwT.nil _ _ _, by rw [HD.out]; exact OwC.nil _ _, below_put (below_put (below_put (below_put Q20.out.low HR0.out _) HR0.out _) HR0.out _) HR0.out _⟩
                | false =>
                  cases pr with
                  | false =>
                    have HD := hide (show pdecode bs = (noPch, 3) from by
                      rw [HPD.out, if_neg (by omega), if_pos (by simp)])
                    have z0 := Q20.out.z.cell 0
                    have z1 := Q20.out.z.cell 1
                    have z2 := Q20.out.z.cell 2
                    have z3 := Q20.out.z.cell 3
                    have s0 := Q20.out.r.cell 0
                    have s1 := Q20.out.r.cell 1
                    have s2 := Q20.out.r.cell 2
                    have s3 := Q20.out.r.cell 3
                    have f0 := Q20.out.r.free 0
                    have f1 := Q20.out.r.free 1
                    have f2 := Q20.out.r.free 2
                    have f3 := Q20.out.r.free 3
                    have hr0 := Q20.out.ne.2.2.2.2.2.1
                    simp only [List.getElem?_cons_zero, List.getElem?_cons_succ] at z0 z1 z2 z3 s0 s1 s2 s3
                    have HR0 := hide hr0
                    clear hr0 HPD
                    go_wp2
                    have hrf := (((Q20.out.r.put 0 (.slice none 0 0)).put 1 (.string ⟨#[]⟩)).put 2 (.string ⟨#[]⟩)).put 3 (.slice none 0 0)
                    exact bodyPost_ret (results_cr rfl _ _ R tP #[.slice none 0 0, .string ⟨#[]⟩, .string ⟨#[]⟩, .slice none 0 0] (0, 0) _ rfl hrf Tryd.underlying25 rfl sizePt) rfl ⟨_, _, by rw [HD.out]; rfl, by rw [HD.out]; exact OwT.nil _ _ _, by rw [HD.out]; exact OwC.nil _ _, below_put (below_put (below_put (below_put Q20.out.low HR0.out _) HR0.out _) HR0.out _) HR0.out _⟩
                  | true =>
                    have HD := hide (show pdecode bs = (⟨L, a, o, C⟩, 0) from by
                      rw [HPD.out, if_neg (by omega), if_neg (by simp)])
                    have p0 := Q20.out.p.cell 0
                    have p1 := Q20.out.p.cell 1
                    have p2 := Q20.out.p.cell 2
                    have p3 := Q20.out.p.cell 3
                    have s0 := Q20.out.r.cell 0
                    have s1 := Q20.out.r.cell 1
                    have s2 := Q20.out.r.cell 2
                    have s3 := Q20.out.r.cell 3
                    have f0 := Q20.out.r.free 0
                    have f1 := Q20.out.r.free 1
                    have f2 := Q20.out.r.free 2
                    have f3 := Q20.out.r.free 3
                    have HR0 := hide Q20.out.ne.2.2.2.2.2.1
                    simp only [List.getElem?_cons_zero, List.getElem?_cons_succ] at p0 p1 p2 p3 s0 s1 s2 s3
                    clear HPD hx0
                    go_wp2
                    have hrf := (((Q20.out.r.put 0 (.slice Ai nL ci)).put 1 (.string ⟨a.toArray⟩)).put 2 (.string ⟨o.toArray⟩)).put 3 (.slice Ac nC cc)
                    have hfin : ∀ (wz : World) (i : Nat) (u : Value), OwT wz w.heap.size tI (.slice Ai nL ci) L ∧ OwC wz w.heap.size (.slice Ac nC cc) C ∧ (∃ cs, Row wz R tP cs) →
                        OwT (wz.setCell ⟨R, i, none⟩ u) w.heap.size tI (.slice Ai nL ci) L ∧ OwC (wz.setCell ⟨R, i, none⟩ u) w.heap.size (.slice Ac nC cc) C ∧ (∃ cs, Row (wz.setCell ⟨R, i, none⟩ u) R tP cs) := by
                      rintro wz i u ⟨k1, k2, cs, k5⟩
                      exact ⟨rw_put k1 (rw_ne k5 (by decide) k1) _, rw_put k2 (rw_ne k5 (by decide) k2) _, _, k5.put i u⟩
                    have hf9 := hfin _ 3 (.slice Ac nC cc) (hfin _ 2 (.string ⟨o.toArray⟩) (hfin _ 1 (.string ⟨a.toArray⟩) (hfin _ 0 (.slice Ai nL ci) ⟨Hown20.out, Hoc20.out, _, Q20.out.r⟩)))
                    exact bodyPost_ret (results_cr rfl _ _ R tP #[.slice Ai nL ci, .string ⟨a.toArray⟩, .string ⟨o.toArray⟩, .slice Ac nC cc] (0, 0) _ rfl hrf Tryd.underlying25 rfl sizePt) rfl ⟨_, _, by rw [HD.out]; rfl, by rw [HD.out]; exact hf9.1, by rw [HD.out]; exact hf9.2.1, below_put (below_put (below_put (below_put Q20.out.low HR0.out _) HR0.out _) HR0.out _) HR0.out _⟩
              · have d1 : ((x : Int) != 0) = true := by rw [bne_iff_ne]; omega
                have d2 : decide ((x : Int) = 0) = false := decide_eq_false (by omega)
                have HD := hide (show pdecode bs = (noPch, x) from by
                  rw [HPD.out, if_pos hx0])
                have z0 := Q19.out.z.cell 0
                have z1 := Q19.out.z.cell 1
                have z2 := Q19.out.z.cell 2
                have z3 := Q19.out.z.cell 3
                have s0 := Q19.out.r.cell 0
                have s1 := Q19.out.r.cell 1
                have s2 := Q19.out.r.cell 2
                have s3 := Q19.out.r.cell 3
                have f0 := Q19.out.r.free 0
                have f1 := Q19.out.r.free 1
                have f2 := Q19.out.r.free 2
                have f3 := Q19.out.r.free 3
                have hr0 := Q19.out.ne.2.2.2.2.2.1
                simp only [List.getElem?_cons_zero, List.getElem?_cons_succ] at z0 z1 z2 z3 s0 s1 s2 s3
                have HR0 := hide hr0
                clear hr0 HPD HEnd HCL HIL HE2 HLi HLc2 HLa HLo hx0
                go_wp2
                have hrf := (((Q19.out.r.put 0 (.slice none 0 0)).put 1 (.string ⟨#[]⟩)).put 2 (.string ⟨#[]⟩)).put 3 (.slice none 0 0)
                exact bodyPost_ret (results_cr rfl _ _ R tP #[.slice none 0 0, .string ⟨#[]⟩, .string ⟨#[]⟩, .slice none 0 0] (0, 0) _ rfl hrf Tryd.underlying25 rfl sizePt) rfl ⟨_, _, by rw [HD.out]; rfl, by rw [HD.out]; exact OwT.nil _ _ _, by rw [HD.out]; exact OwC.nil _ _, below_put (below_put (below_put (below_put Q19.out.low HR0.out _) HR0.out _) HR0.out _) HR0.out _⟩
end Go.Proofs.YtabgkfkjnpcbkaaDoor.Tr
