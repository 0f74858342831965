/-
  unified: Print.
-/
import Derived.Test.YtnehgogajghefaaDoorQ12
import Derived.Test.YtnehgogajghefaaDoorQ9
namespace Go.Proofs.YtnehgogajghefaaDoor.Un
open Go Go.RowKit Kt Lw Li Df Hu

theorem others_row {w w' : World} {g gb : Nat} {cs : List Value} (h : Row w g tH cs) (hk : Lib.OthersKept 5 (some gb) w w') (hne : g ≠ gb) : Row w' g tH cs := by
  unfold Row at h ⊢
  exact hk g _ h (by simpa using hne) (fun c fz e => by injection e with _ e; exact absurd e (by decide))
theorem flat_snoc (f : Hk → List UInt8) (L : List Hk) (k : Nat) (h : Hk) (hk : L[k]? = some h) : ((L.take (k + 1)).map f).flatten = ((L.take k).map f).flatten ++ f h := by
  have hl := (List.getElem?_eq_some_iff.1 hk).1
  have he := (List.getElem?_eq_some_iff.1 hk).2
  rw [List.take_succ_eq_append_getElem hl, List.map_append, List.flatten_append, he]
  simp
theorem flat_le (f : Hk → List UInt8) (L : List Hk) (k : Nat) : ((L.take k).map f).flatten.length ≤ ((L.map f).flatten).length := by
  have h := congrArg (fun l => ((l.map f).flatten).length) (List.take_append_drop k L)
  simp only [List.map_append, List.flatten_append, List.length_append] at h
  omega
theorem tall_snoc (L : List Hk) (k : Nat) (h : Hk) (hk : L[k]? = some h) : (L.take (k + 1)).all tell = ((L.take k).all tell && tell h) := by
  have hl := (List.getElem?_eq_some_iff.1 hk).1
  have he := (List.getElem?_eq_some_iff.1 hk).2
  rw [List.take_succ_eq_append_getElem hl, List.all_append, he]
  simp
theorem tall_no (L : List Hk) (k : Nat) (h : Hk) (hk : L[k]? = some h) (ht : tell h = false) : L.all tell = false := by
  rw [List.all_eq_false]
  exact ⟨h, List.mem_of_getElem? hk, by simp [ht]⟩
theorem lflat_snoc (L : Ls) (k : Nat) (hk : k < L.length) : ((L.take (k + 1)).map lineT).flatten = ((L.take k).map lineT).flatten ++ lineT (L.getD k []) := by
  rw [List.take_succ_eq_append_getElem hk, List.map_append, List.flatten_append]
  simp [List.getElem?_eq_getElem hk]
theorem lflat_le (L : Ls) (k : Nat) : ((L.take k).map lineT).flatten.length ≤ ((L.map lineT).flatten).length := by
  have h := congrArg (fun l => ((l.map lineT).flatten).length) (List.take_append_drop k L)
  simp only [List.map_append, List.flatten_append, List.length_append] at h
  omega
/-- a hunk of a size that is walked -/
def Fit (h : Hk) : Prop := (-4503599627370496 ≤ h.a ∧ h.a ≤ 4503599627370496) ∧ (-4503599627370496 ≤ h.b ∧ h.b ≤ 4503599627370496) ∧ h.lines.length ≤ 1000000 ∧ ∀ x ∈ h.lines, x.length ≤ 1000000000
set_option maxRecDepth 100000 in
set_option maxHeartbeats 4000000 in
theorem print_any (L : List Hk) (A : Option Addr) (c : Nat) (w : World) (hs : Hks w A c L) (hE : Env w) (hn : L.length ≤ 1000000) (hlen : ((L.map hkT).flatten).length ≤ 1000000000) (hf : ∀ h ∈ L, Fit h) :
    Calls Tryd.prog 8 #[.slice A L.length c] w fun y w' => y = .returned (.string ⟨(prt L).toArray⟩) ∧ Below w.heap.size w w' := by
  have Hs := hide hs
  have HE := hide (fun w' (hb : Below w.heap.size w w') => hE.keep hb)
  have Hf := hide hf
  have HL := hide hlen
  obtain ⟨N, hN⟩ : ∃ N, N = L.length := ⟨_, rfl⟩
  rw [← hN] at hn ⊢
  have HN := hide hN
  clear hs hE hf hN hlen
  go_enter Tryd.func8, Tryd.ntmps8
  go_wp2
  obtain ⟨w0, hw0⟩ : ∃ w0, w0 = w.alloc (.cells #[.pointer none, .slice none 0 0] 47) := ⟨_, rfl⟩
  have hb0 : Below w.heap.size w w0 := by rw [hw0]; exact (Below.refl _ w).alloc (Nat.le_refl _) _
  have hbd : Bd w0 w.heap.size w.heap.size [] := by rw [hw0]; exact Bd.fresh w
  rw [← hw0]
  obtain ⟨B, hB⟩ : ∃ B, B = w.heap.size := ⟨_, rfl⟩
  rw [← hB] at hbd ⊢
  have HB := hide hB
  have Hbd := hide hbd
  have Hb0 := hide hb0
  clear hw0 hbd hb0 hB
  go_loopw [10] (fun i wr => ∃ k : Nat, k ≤ N ∧ i = .int .i64 k ∧ (L.take k).all tell = true ∧ Bd wr B B (((L.take k).map hkT).flatten) ∧ Below w.heap.size w wr) (fun i _ => N - (intOf i).toNat)
  case atStart => exact ⟨0, Nat.zero_le _, rfl, rfl, Hbd.out, Hb0.out⟩
  case round =>
    obtain ⟨k, hk, rfl, hall, hbd, hb⟩ := hrel
    have Hall := hide hall
    have Hbd := hide hbd
    have Hb := hide hb
    clear hall hbd hb
    by_cases hlt : k < N
    · obtain ⟨bE, oE, h, Ah, ch, hA', hke, ⟨c0, c1, c2, c3, c4⟩, hvs⟩ := Hs.out.at Hb.out (k := k) (by have := HN.out; omega)
      subst hA'
      obtain ⟨f1, f2, f3, f4⟩ := Hf.out h (List.mem_of_getElem? hke)
      obtain ⟨n, hn'⟩ : ∃ n, n = h.lines.length := ⟨_, rfl⟩
      rw [← hn'] at c4
      have hnb : n ≤ 1000000 := by rw [hn']; exact f3
      have Hke := hide hke
      have Hn := hide hn'
      have Hvs := hide hvs
      clear hke hn' hvs
      go_upto_region 5 with fail
      obtain ⟨w1, hw1⟩ : ∃ w1, w1 = wr.alloc (.cells #[.int .i64 h.a, .int .i64 h.an, .int .i64 h.b, .int .i64 h.bn, .slice Ah n ch] tH) := ⟨_, rfl⟩
      have hb1 : Below wr.heap.size wr w1 := by rw [hw1]; exact (Below.refl _ wr).alloc (Nat.le_refl _) _
      have hrow : Row w1 wr.heap.size tH [.int .i64 h.a, .int .i64 h.an, .int .i64 h.b, .int .i64 h.bn, .slice Ah n ch] := by rw [hw1]; exact Row.fresh wr tH _
      rw [← hw1]
      obtain ⟨g, hg⟩ : ∃ g, g = wr.heap.size := ⟨_, rfl⟩
      have hgB : g ≠ B := by
        have h1 := (Hbd.out)
        have h2 : B < wr.heap.size := h1.elim (fun h => h.lt) (fun h => h.lt)
        omega
      rw [← hg] at hrow ⊢
      have Hbd1 := hide (Hbd.out.keep hb1)
      have Hb1 := hide (Hb.out.trans (hb1.mono Hb.out.size))
      have Hrow := hide hrow
      have HTl := hide (tellable_any h.a h.an h.b h.bn h.lines Ah ch _ w1 (Lw.Vs.below Hvs.out Hb1.out) (by omega) (fun x hx => Nat.le_trans (f4 x hx) (by omega)) f1 f2)
      rw [← Hn.out] at HTl
      have HHd := hide (fun w' (hb : Below w.heap.size w w') (e : tell h = true) => head_any h.a h.an h.b h.bn (.slice Ah n ch) rfl w' (HE.out w' hb) (by have := (tell_iff.1 e).2.1.1; omega) (by have := (tell_iff.1 e).2.1.2; omega) (by have := (tell_iff.1 e).2.2.1.1; omega) (by have := (tell_iff.1 e).2.2.1.2; omega))
      have Htk := hide (tall_snoc L k h Hke.out)
      have Hno := hide (tall_no L k h Hke.out)
      have Hsn := hide (flat_snoc hkT L k h Hke.out)
      have hle1 := flat_le hkT L (k + 1)
      rw [Hsn.out, List.length_append] at hle1
      have hle2 := HL.out
      have Hf4 := hide f4
      have r0 := hrow.cell 0
      have r1 := hrow.cell 1
      have r2 := hrow.cell 2
      have r3 := hrow.cell 3
      have r4 := hrow.cell 4
      simp only [List.getElem?_cons_zero, List.getElem?_cons_succ] at r0 r1 r2 r3 r4
      obtain ⟨P, hP⟩ : ∃ P, P = ((L.take k).map hkT).flatten := ⟨_, rfl⟩
      rw [← hP] at Hbd1 Hsn hle1
      have HTe := hide (show h.lines = h.lines from rfl)
      clear hw1 hb1 hrow hg c0 c1 c2 c3 c4 f1 f2 f3 f4 Hbd Hb hP
      cases ht : tell h with
      | false =>
        have Hp := hide (show prt L = [] by rw [prt, if_neg (by rw [Hno.out ht]; simp)])
        have HTl2 := hide (show Calls Tryd.prog 18 #[.agg #[.int .i64 h.a, .int .i64 h.an, .int .i64 h.b, .int .i64 h.bn, .slice Ah n ch]] w1 fun y w' => y = .returned (.bool false) ∧ Below w1.heap.size w1 w' from by rw [← ht]; exact HTl.out)
        clear HTl HHd Htk Hno Hsn hle1 hle2 ht Hbd1
        go_wp2_with fail
        refine HTl2.out.mono ?_
        rintro y w2 ⟨rfl, hb2⟩
        have Hb2 := hide (Hb1.out.trans (hb2.mono Hb1.out.size))
        clear hb2
        go_wp2
        go_ret
        exact ⟨by rw [Hp.out]; rfl, Hb2.out⟩
      | true =>
        have HTl2 := hide (show Calls Tryd.prog 18 #[.agg #[.int .i64 h.a, .int .i64 h.an, .int .i64 h.b, .int .i64 h.bn, .slice Ah n ch]] w1 fun y w' => y = .returned (.bool true) ∧ Below w1.heap.size w1 w' from by rw [← ht]; exact HTl.out)
        have HHd2 := hide (fun w' (hb : Below w.heap.size w w') => HHd.out w' hb ht)
        have Htk2 := hide (show (L.take (k + 1)).all tell = true by rw [Htk.out, Hall.out, ht]; rfl)
        have Hhk := hide (show hkT h = headT h.a h.an h.b h.bn ++ (h.lines.map lineT).flatten from rfl)
        rw [Hhk.out, List.length_append] at hle1
        obtain ⟨hT, hhT⟩ : ∃ hT, hT = headT h.a h.an h.b h.bn := ⟨_, rfl⟩
        rw [← hhT] at HHd2 Hhk hle1
        clear HTl HHd Htk Hno ht hhT Hall
        go_wp2_with fail
        refine HTl2.out.mono ?_
        rintro y w2 ⟨rfl, hb2⟩
        have Hb2 := hide (Hb1.out.trans (hb2.mono Hb1.out.size))
        have Hbd2 := hide (Hbd1.out.keep hb2)
        have Hrow2 := hide (Hrow.out.below hb2 Hrow.out.lt)
        have s0 := cell_keep hb2 r0
        have s1 := cell_keep hb2 r1
        have s2 := cell_keep hb2 r2
        have s3 := cell_keep hb2 r3
        have s4 := cell_keep hb2 r4
        clear hb2 r0 r1 r2 r3 r4 Hrow Hbd1
        go_wp2_with fail
        refine (HHd2.out w2 Hb2.out).mono ?_
        rintro y w3 ⟨rfl, hb3⟩
        have Hb3 := hide (Hb2.out.trans (hb3.mono Hb2.out.size))
        have Hbd3 := hide (Hbd2.out.keep hb3)
        have Hrow3 := hide (Hrow2.out.below hb3 Hrow2.out.lt)
        clear hb3 s0 s1 s2 s3 s4 Hrow2 Hbd2
        go_wp2_with fail
        refine (write_any B B P hT w3 Hbd3.out (by omega) (by rw [HB.out]; exact Hb3.out.size)).mono ?_
        rintro y w4 ⟨rfl, hbd4, hb4, ho4⟩
        have Hb4 := hide (Hb3.out.trans (HB.out ▸ hb4))
        have hrow4 := others_row Hrow3.out ho4 hgB
        have t4 := hrow4.cell 4
        simp only [List.getElem?_cons_zero, List.getElem?_cons_succ] at t4
        have Hbd4 := hide hbd4
        clear hbd4 hb4 ho4 hrow4 Hrow3 Hbd3
        have HLl := hide (show ((h.lines.map lineT).flatten).length ≤ 1000000000 by omega)
        have Hpl := hide (show P.length + hT.length + ((h.lines.map lineT).flatten).length ≤ 1000000000 by omega)
        clear hle1 hle2
        go_wp2
        clear t4
        go_loopw [23] (fun i wr' => ∃ j : Nat, j ≤ n ∧ i = .int .i64 j ∧ Bd wr' B B ((P ++ hT) ++ ((h.lines.take j).map lineT).flatten) ∧ Below w.heap.size w wr') (fun i _ => n - (intOf i).toNat)
        case atStart => exact ⟨0, Nat.zero_le _, rfl, by simpa using Hbd4.out, Hb4.out⟩
        case round =>
          obtain ⟨j, hj, rfl, hbd, hb⟩ := hrel
          have Hbd5 := hide hbd
          have Hb5 := hide hb
          clear hbd hb
          by_cases hlj : j < n
          · obtain ⟨bl, ol, hA2, ck⟩ := Hvs.out.text Hb5.out (k := j) (by have := Hn.out; omega)
            subst hA2
            have Hsj := hide (lflat_snoc h.lines j (by have := Hn.out; omega))
            have hlj1 := lflat_le h.lines (j + 1)
            rw [Hsj.out, List.length_append] at hlj1
            obtain ⟨x, hx⟩ : ∃ x, x = h.lines.getD j [] := ⟨_, rfl⟩
            rw [← hx] at ck Hsj hlj1
            clear hx
            obtain ⟨Q, hQ⟩ : ∃ Q, Q = (P ++ hT) ++ ((h.lines.take j).map lineT).flatten := ⟨_, rfl⟩
            have hQl : Q.length + (lineT x).length ≤ 1000000000 := by
              have h1 := Hpl.out
              rw [hQ, List.length_append, List.length_append]; omega
            have Hnx := hide (show (P ++ hT) ++ ((h.lines.take (j + 1)).map lineT).flatten = Q ++ lineT x by rw [Hsj.out, hQ]; simp only [List.append_assoc])
            rw [← hQ] at Hbd5
            have hxl : x.length ≤ (lineT x).length := by unfold lineT; split <;> simp
            have HCl := hide (fun w' => closed_any x w' (by omega))
            clear hQ Hsj hlj1
            have HLt := hide (show lineT x = if closed x then x else x ++ 10 :: markB from rfl)
            cases hc : closed x with
            | true =>
              rw [hc] at HCl
              have Hnx2 := hide (show (P ++ hT) ++ ((h.lines.take (j + 1)).map lineT).flatten = Q ++ x by rw [Hnx.out, HLt.out, hc]; rfl)
              clear hc Hnx HLt
              go_wp2_with fail
              refine (write_any B B Q x wr Hbd5.out (by omega) (by rw [HB.out]; exact Hb5.out.size)).mono ?_
              rintro y w5 ⟨rfl, hbd6, hb6, _⟩
              have Hb6 := hide (Hb5.out.trans (HB.out ▸ hb6))
              have Hbd6 := hide hbd6
              clear hbd6 hb6 Hbd5
              go_wp2_with fail
              refine (HCl.out _).mono ?_
              rintro y w6 ⟨rfl, rfl⟩
              go_wp2
              exact ⟨⟨j + 1, by omega, by go_num, by rw [Hnx2.out]; exact Hbd6.out, Hb6.out⟩, by simp [intOf]; omega⟩
            | false =>
              rw [hc] at HCl
              have Hnx2 := hide (show (P ++ hT) ++ ((h.lines.take (j + 1)).map lineT).flatten = (Q ++ x) ++ (10 :: markB) by rw [Hnx.out, HLt.out, hc, List.append_assoc]; rfl)
              have hml : (lineT x).length = x.length + 29 := by rw [HLt.out, hc]; rw [if_neg (by simp), List.length_append]; rfl
              clear hc Hnx HLt
              go_wp2_with fail
              refine (write_any B B Q x wr Hbd5.out (by omega) (by rw [HB.out]; exact Hb5.out.size)).mono ?_
              rintro y w5 ⟨rfl, hbd6, hb6, _⟩
              have Hb6 := hide (Hb5.out.trans (HB.out ▸ hb6))
              have Hbd6 := hide hbd6
              clear hbd6 hb6 Hbd5
              go_wp2_with fail
              refine (HCl.out _).mono ?_
              rintro y w6 ⟨rfl, rfl⟩
              go_wp2_with fail
              refine (write_any B B (Q ++ x) (10 :: markB) _ Hbd6.out (by rw [List.length_append]; show _ + 29 ≤ _; omega) (by rw [HB.out]; exact Hb6.out.size)).mono ?_
              rintro y w7 ⟨rfl, hbd7, hb7, _⟩
              have Hb7 := hide (Hb6.out.trans (HB.out ▸ hb7))
              have Hbd7 := hide hbd7
              clear hbd7 hb7 Hbd6
              go_wp2
              exact ⟨⟨j + 1, by omega, by go_num, by rw [Hnx2.out]; exact Hbd7.out, Hb7.out⟩, by simp [intOf]; omega⟩
          · have Hnx := hide (show ((L.take (k + 1)).map hkT).flatten = (P ++ hT) ++ ((h.lines.take j).map lineT).flatten by
              rw [Hsn.out, Hhk.out, List.take_of_length_le (by have := Hn.out; omega), List.append_assoc])
            go_wp2
            exact ⟨⟨k + 1, by omega, by go_num, Htk2.out, by rw [Hnx.out]; exact Hbd5.out, Hb5.out⟩, by simp [intOf]; omega⟩
    · obtain rfl : k = N := by omega
      have Hp := hide (show prt L = ((L.take k).map hkT).flatten by
        have h1 := Hall.out
        rw [HN.out, List.take_length] at h1 ⊢
        rw [prt, if_pos h1])
      have HT := hide (told_any B B _ _ Hbd.out (by rw [HB.out]; exact Hb.out.size))
      clear Hall Hbd
      generalize ((L.take k).map hkT).flatten = T at *
      go_wp2_with fail
      refine HT.out.mono ?_
      rintro y w2 ⟨rfl, hb2⟩
      have Hb2 := hide (Hb.out.trans (HB.out ▸ hb2))
      clear hb2
      go_wp2
      go_ret
      exact ⟨by rw [Hp.out]; rfl, Hb2.out⟩
end Go.Proofs.YtnehgogajghefaaDoor.Un
