/-
  unified: tellable.
-/
import Derived.Test.YtfmmececocilhaaDoorUE
import Derived.Deep.CutRange
import Derived.Deep.CutBlock
namespace Go.Proofs.YtfmmececocilhaaDoor.Un
open Go Go.RowKit Kt Lw Li Df Hu

theorem all_take (p : List UInt8 → Bool) (L : Ls) (k : Nat) (hk : k < L.length) : (L.take (k + 1)).all p = ((L.take k).all p && p (L.getD k [])) := by
  rw [List.take_succ_eq_append_getElem hk, List.all_append]
  simp [List.getElem?_eq_getElem hk]
theorem all_no (p : List UInt8 → Bool) (L : Ls) (k : Nat) (hk : k < L.length) (h : p (L.getD k []) = false) : L.all p = false := by
  rw [List.all_eq_false]
  refine ⟨L[k], List.getElem_mem hk, ?_⟩
  simp [List.getElem?_eq_getElem hk] at h
  simp [h]
set_option maxRecDepth 100000 in
set_option maxHeartbeats 2000000 in
theorem tellable_any (ha han hb hbn : Int) (L : Ls) (A : Option Addr) (c : Nat) (P : Nat → Prop) (w : World) (hs : Vs w P A c (texts L)) (hn : L.length ≤ 1000000) (hx : ∀ x ∈ L, x.length ≤ 9223372036854775807)
    (h1 : -4503599627370496 ≤ ha ∧ ha ≤ 4503599627370496) (h2 : -4503599627370496 ≤ hb ∧ hb ≤ 4503599627370496) :
    Calls Tryd.prog 15 #[.agg #[.int .i64 ha, .int .i64 han, .int .i64 hb, .int .i64 hbn, .slice A L.length c]] w fun y w' => y = .returned (.bool (tell ⟨ha, han, hb, hbn, L⟩)) ∧ Below w.heap.size w w' := by
  have Hs := hide hs.bound
  have HR := hide (fun w' (hb' : Below w.heap.size w w') => hright_any ha han hb hbn L A c _ w' (Lw.Vs.below hs.bound hb') hn)
  have HT := hide (show tell ⟨ha, han, hb, hbn, L⟩ = ((hright ⟨ha, han, hb, hbn, L⟩ && (smlB ha han && smlB hb hbn)) && L.all (fun x => (lns x).length == 1)) from rfl)
  have HX := hide (fun k (hk : k < L.length) => hx (L.getD k []) (by simp [List.getElem?_eq_getElem hk]))
  have HP := hide (fun (e : hright ⟨ha, han, hb, hbn, L⟩ = true) => hright_parts e)
  have HM := hide (show many 45 L ≤ L.length ∧ many 43 L ≤ L.length from ⟨many_le _ _, many_le _ _⟩)
  obtain ⟨N, hN⟩ : ∃ N, N = L.length := ⟨_, rfl⟩
  rw [← hN] at hn HR HX HM ⊢
  have HN := hide hN
  clear hs hx hN
  go_enter Tryd.func15, Tryd.ntmps15
  go_upto_region 1 with fail
  obtain ⟨w1, hw1⟩ : ∃ w1, w1 = w.alloc (.cells #[.int .i64 ha, .int .i64 han, .int .i64 hb, .int .i64 hbn, .slice A N c] tH) := ⟨_, rfl⟩
  have hb1 : Below w.heap.size w w1 := by rw [hw1]; exact (Below.refl _ w).alloc (Nat.le_refl _) _
  have hrow : Row w1 w.heap.size tH [.int .i64 ha, .int .i64 han, .int .i64 hb, .int .i64 hbn, .slice A N c] := by rw [hw1]; exact Row.fresh w tH _
  rw [← hw1]
  have c0 := hrow.cell 0
  have c1 := hrow.cell 1
  have c2 := hrow.cell 2
  have c3 := hrow.cell 3
  have c4 := hrow.cell 4
  simp only [List.getElem?_cons_zero, List.getElem?_cons_succ] at c0 c1 c2 c3 c4
  obtain ⟨g, hg⟩ : ∃ g, g = w.heap.size := ⟨_, rfl⟩
  rw [← hg] at c0 c1 c2 c3 c4 ⊢
  have Hg := hide hg
  have Hb1 := hide hb1
  clear hw1 hb1 hrow hg
  have HR1 := hide (HR.out w1 Hb1.out)
  clear HR
  cases hr : hright ⟨ha, han, hb, hbn, L⟩ with
  | false =>
    rw [hr] at HR1 HT
    have Hno := hide (show tell ⟨ha, han, hb, hbn, L⟩ = false by rw [HT.out]; rfl)
    clear HT HP hr
    go_wp2_with fail
    refine HR1.out.mono ?_
    rintro y w2 ⟨rfl, hb2⟩
    have Hb2 := hide (Hb1.out.trans (hb2.mono Hb1.out.size))
    clear hb2
    go_wp2
    go_ret
    exact ⟨by rw [Hno.out]; rfl, Hb2.out⟩
  | true =>
    obtain ⟨_, _, _, q1, q2⟩ := HP.out hr
    simp only at q1 q2
    have han0 : 0 ≤ han ∧ han ≤ 4503599627370496 := by have := HM.out; omega
    have hbn0 : 0 ≤ hbn ∧ hbn ≤ 4503599627370496 := by have := HM.out; omega
    rw [hr] at HR1 HT
    have HS1 := hide (fun w' => small_any ha han w' h1 han0)
    have HS2 := hide (fun w' => small_any hb hbn w' h2 hbn0)
    clear q1 q2 HP hr
    cases hs1 : smlB ha han with
    | false =>
      rw [hs1] at HS1 HT
      have Hno := hide (show tell ⟨ha, han, hb, hbn, L⟩ = false by rw [HT.out]; rfl)
      clear HT hs1
      go_wp2_with fail
      refine HR1.out.mono ?_
      rintro y w2 ⟨rfl, hb2⟩
      have Hb2 := hide (Hb1.out.trans (hb2.mono Hb1.out.size))
      have d0 := cell_keep hb2 c0
      have d1 := cell_keep hb2 c1
      clear hb2 c0 c1 c2 c3 c4
      go_wp2_with fail
      refine (HS1.out _).mono ?_
      rintro y w3 ⟨rfl, rfl⟩
      go_wp2
      go_ret
      exact ⟨by rw [Hno.out]; rfl, Hb2.out⟩
    | true =>
      rw [hs1] at HS1 HT
      cases hs2 : smlB hb hbn with
      | false =>
        rw [hs2] at HS2 HT
        have Hno := hide (show tell ⟨ha, han, hb, hbn, L⟩ = false by rw [HT.out]; rfl)
        clear HT hs1 hs2
        go_wp2_with fail
        refine HR1.out.mono ?_
        rintro y w2 ⟨rfl, hb2⟩
        have Hb2 := hide (Hb1.out.trans (hb2.mono Hb1.out.size))
        have d0 := cell_keep hb2 c0
        have d1 := cell_keep hb2 c1
        have d2 := cell_keep hb2 c2
        have d3 := cell_keep hb2 c3
        clear hb2 c0 c1 c2 c3 c4
        go_wp2_with fail
        refine (HS1.out _).mono ?_
        rintro y w3 ⟨rfl, rfl⟩
        go_wp2_with fail
        refine (HS2.out _).mono ?_
        rintro y w3 ⟨rfl, rfl⟩
        go_wp2
        go_ret
        exact ⟨by rw [Hno.out]; rfl, Hb2.out⟩
      | true =>
        rw [hs2] at HS2 HT
        have HT2 := hide (show tell ⟨ha, han, hb, hbn, L⟩ = L.all (fun x => (lns x).length == 1) by rw [HT.out]; rfl)
        clear HT hs1 hs2
        go_wp2_with fail
        refine HR1.out.mono ?_
        rintro y w2 ⟨rfl, hb2⟩
        have Hb2 := hide (Hb1.out.trans (hb2.mono Hb1.out.size))
        have d0 := cell_keep hb2 c0
        have d1 := cell_keep hb2 c1
        have d2 := cell_keep hb2 c2
        have d3 := cell_keep hb2 c3
        have d4 := cell_keep hb2 c4
        clear hb2 c0 c1 c2 c3 c4
        go_wp2_with fail
        refine (HS1.out _).mono ?_
        rintro y w3 ⟨rfl, rfl⟩
        go_wp2_with fail
        refine (HS2.out _).mono ?_
        rintro y w3 ⟨rfl, rfl⟩
        go_wp2
        clear d0 d1 d2 d3 d4
        go_loopw [27] (fun i wr => ∃ k : Nat, k ≤ N ∧ i = .int .i64 k ∧ (L.take k).all (fun x => (lns x).length == 1) = true ∧ Below w.heap.size w wr) (fun i _ => N - (intOf i).toNat)
        case atStart => exact ⟨0, Nat.zero_le _, rfl, rfl, Hb2.out⟩
        case round =>
          obtain ⟨k, hk, rfl, hall, hb3⟩ := hrel
          have Hall := hide hall
          have Hb3 := hide hb3
          clear hall hb3
          by_cases hlt : k < N
          · obtain ⟨b, o, rfl, ck⟩ := Hs.out.text Hb3.out (k := k) (by have := HN.out; omega)
            have HC := hide (count_any (L.getD k []) wr (HX.out k hlt))
            have Hst := hide (all_take (fun x => (lns x).length == 1) L k (by have := HN.out; omega))
            have Hna := hide (all_no (fun x => (lns x).length == 1) L k (by have := HN.out; omega))
            generalize L.getD k [] = x at *
            by_cases h1 : (lns x).length = 1
            · have Hnx := hide (show (L.take (k + 1)).all (fun x => (lns x).length == 1) = true by rw [Hst.out, Hall.out, h1]; rfl)
              rw [h1] at HC
              clear h1 Hst Hna Hall
              go_wp2_with fail
              refine HC.out.mono ?_
              rintro y w4 ⟨rfl, hb4⟩
              have Hb4 := hide (Hb3.out.trans (hb4.mono Hb3.out.size))
              clear hb4
              go_wp2
              exact ⟨⟨k + 1, by omega, by go_num, Hnx.out, Hb4.out⟩, by simp [intOf]; omega⟩
            · have Hno := hide (show tell ⟨ha, han, hb, hbn, L⟩ = false by rw [HT2.out]; exact Hna.out (by simpa using h1))
              have e1 : (((lns x).length : Int) == 1) = false := beq_eq_false_iff_ne.2 (by omega)
              generalize ((lns x).length : Int) = z at *
              clear h1 Hst Hna Hall
              go_wp2_with fail
              refine HC.out.mono ?_
              rintro y w4 ⟨rfl, hb4⟩
              have Hb4 := hide (Hb3.out.trans (hb4.mono Hb3.out.size))
              clear hb4
              go_wp2
              go_ret
              exact ⟨by rw [Hno.out]; rfl, Hb4.out⟩
          · obtain rfl : k = N := by omega
            have Hy := hide (show tell ⟨ha, han, hb, hbn, L⟩ = true by
              have := Hall.out
              rw [HN.out, List.take_length] at this
              rw [HT2.out, this])
            clear Hall
            go_wp2
            go_ret
            exact ⟨by rw [Hy.out]; rfl, Hb3.out⟩
end Go.Proofs.YtfmmececocilhaaDoor.Un
