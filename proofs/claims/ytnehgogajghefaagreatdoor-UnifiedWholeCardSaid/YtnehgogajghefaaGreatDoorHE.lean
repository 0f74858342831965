/-
  hunk.Right.
-/
import Derived.Test.YtnehgogajghefaaGreatDoorQ3
import Derived.Test.YtnehgogajghefaaGreatDoorEM
import Derived.Lib.Bytealg
namespace Go.Proofs.YtnehgogajghefaaGreatDoor.Hu
open Go Go.RowKit Kt Lw Li Df

abbrev tH : TypeId := 36
set_option maxRecDepth 100000 in
theorem lite_any (s : ByteArray) (c : Int) (w : World) :
    Calls Tryz.prog 55 #[.string s, .int .u8 c] w fun e w' => e = .returned (.int .i64 (Lib.indexByte s.data.toList c.toNat.toUInt8)) ∧ w = w' := by
  go_enter Tryz.func55, Tryz.ntmps55
  go_wp2
  rw [run_callFunc_extern Tryz.func64 (by kernel_rfl) (by kernel_rfl) (by kernel_rfl) (e := Extern.BytealgIndexByte.indexByte) (by kernel_rfl), Lib.run_indexByteString]
  simp only [Result.andThen]
  rw [Oper.upon_value]
  go_wp2
  go_ret
  exact ⟨rfl, rfl⟩
def signV (c : UInt8) : Int := Lib.indexByte [32, 45, 43] c
theorem index_any (c : UInt8) (w : World) : Calls Tryz.prog 47 #[.string ⟨#[32, 45, 43]⟩, .int .u8 (c.toNat : Int)] w fun e w' => e = .returned (.int .i64 (signV c)) ∧ w = w' := by
  go_enter Tryz.func47, Tryz.ntmps47
  go_wp2_with fail
  refine (lite_any _ _ _).mono ?_
  rintro e w' ⟨rfl, rfl⟩
  go_wp2
  go_ret
  refine ⟨?_, rfl⟩
  rfl
theorem signV_no {c : UInt8} (h : ¬ (c = 32 ∨ c = 45 ∨ c = 43)) : signV c = -1 := by
  have h1 : ¬ c = 32 := fun e => h (.inl e)
  have h2 : ¬ c = 45 := fun e => h (.inr (.inl e))
  have h3 : ¬ c = 43 := fun e => h (.inr (.inr e))
  have e1 : ((32 : UInt8) == c) = false := beq_eq_false_iff_ne.2 fun e => h1 e.symm
  have e2 : ((45 : UInt8) == c) = false := beq_eq_false_iff_ne.2 fun e => h2 e.symm
  have e3 : ((43 : UInt8) == c) = false := beq_eq_false_iff_ne.2 fun e => h3 e.symm
  unfold signV
  simp [Lib.indexByte, e1, e2, e3]
theorem okF_drop (p : Bool) (L : Ls) (k : Nat) (h : k < L.length) : okF p (L.drop k) = ((decide (sg (L.getD k []) = 32 ∨ sg (L.getD k []) = 45 ∨ sg (L.getD k []) = 43) && !(decide (sg (L.getD k []) = 45) && p)) && okF (decide (sg (L.getD k []) = 43)) (L.drop (k + 1))) := by
  rw [List.drop_eq_getElem_cons h, okF]
  simp [List.getElem?_eq_getElem h]

set_option maxHeartbeats 1000000 in
set_option maxRecDepth 100000 in
theorem hright_any (ha han hb hbn : Int) (L : Ls) (A : Option Addr) (c : Nat) (P : Nat → Prop) (w : World) (hs : Vs w P A c (texts L)) (hn : L.length ≤ 1000000) :
    Calls Tryz.prog 29 #[.agg #[.int .i64 ha, .int .i64 han, .int .i64 hb, .int .i64 hbn, .slice A L.length c]] w fun y w' => y = .returned (.bool (hright ⟨ha, han, hb, hbn, L⟩)) ∧ Below w.heap.size w w' := by
  have Hs := hide hs.bound
  have HC := hide (fun w' (hb : Below w.heap.size w w') => count_any L A c _ w' (Lw.Vs.below hs.bound hb) hn)
  obtain ⟨N, hN⟩ : ∃ N, N = L.length := ⟨_, rfl⟩
  rw [← hN] at hn HC ⊢
  have HN := hide hN
  have HR := hide (show hright ⟨ha, han, hb, hbn, L⟩ = (okF false L && (((decide (0 ≤ ha) && decide (0 ≤ hb)) && decide (han = many 45 L)) && decide (hbn = many 43 L))) from rfl)
  have hm1 := many_le 45 L
  have hm2 := many_le 43 L
  rw [← hN] at hm1 hm2
  generalize many 45 L = m1 at *
  generalize many 43 L = m2 at *
  clear hs hN
  go_enter Tryz.func29, Tryz.ntmps29
  go_wp2
  obtain ⟨w1, hw1⟩ : ∃ w1, w1 = w.alloc (.cells #[.int .i64 ha, .int .i64 han, .int .i64 hb, .int .i64 hbn, .slice A N c] tH) := ⟨_, rfl⟩
  have hb1 : Below w.heap.size w w1 := by rw [hw1]; exact (Below.refl _ w).alloc (Nat.le_refl _) _
  have hrow : Row w1 w.heap.size tH [.int .i64 ha, .int .i64 han, .int .i64 hb, .int .i64 hbn, .slice A N c] := by rw [hw1]; exact Row.fresh w tH _
  rw [← hw1]
  have Hb1 := hide hb1
  have c0 := hrow.cell 0
  have c1 := hrow.cell 1
  have c2 := hrow.cell 2
  have c3 := hrow.cell 3
  have c4 := hrow.cell 4
  simp only [List.getElem?_cons_zero, List.getElem?_cons_succ] at c0 c1 c2 c3 c4
  clear hw1 hb1 hrow
  go_loopw [3, 12] (fun p i wr => ∃ (k : Nat) (q : UInt8), k ≤ N ∧ i = .int .i64 k ∧ p = .int .u8 (q.toNat : Int) ∧ okF false L = okF (decide (q = 43)) (L.drop k) ∧ wr = w1) (fun _ i _ => N - (intOf i).toNat)
  case atStart => exact ⟨0, 32, Nat.zero_le _, rfl, rfl, rfl, rfl⟩
  case round =>
    obtain ⟨k, q, hk, rfl, rfl, hok, rfl⟩ := hrel
    have Hok := hide hok
    clear hok
    by_cases hlt : k < N
    · obtain ⟨b, o, rfl, ck⟩ := Hs.out.text Hb1.out (k := k) (by have := HN.out; omega)
      have Hd := hide (okF_drop (decide (q = 43)) L k (by have := HN.out; omega))
      generalize L.getD k [] = x at *
      have HS := hide (sign_any x)
      obtain ⟨s, hs⟩ : ∃ s, s = sg x := ⟨_, rfl⟩
      rw [← hs] at HS Hd
      clear hs
      have HI := hide (index_any s)
      by_cases hno : s = 32 ∨ s = 45 ∨ s = 43
      · have hI0 : ¬ signV s < 0 := by rcases hno with rfl | rfl | rfl <;> decide
        have hI0' : decide (signV s < 0) = false := decide_eq_false hI0
        generalize signV s = z at *
        by_cases h45 : s = 45
        · subst h45
          by_cases h43 : q = 43
          · subst h43
            have Hno := hide (show hright ⟨ha, han, hb, hbn, L⟩ = false by rw [HR.out, Hok.out, Hd.out]; rfl)
            clear Hd
            go_wp2_with fail
            refine (HS.out _).mono ?_
            rintro y w2 ⟨rfl, rfl⟩
            go_wp2_with fail
            refine (HI.out _).mono ?_
            rintro y w3 ⟨rfl, rfl⟩
            go_wp2
            go_ret
            exact ⟨by rw [Hno.out]; rfl, Hb1.out⟩
          · have e43 : ((q.toNat : Int) == 43) = false := u8_ne h43
            have Hnx := hide (show okF false L = okF (decide ((45 : UInt8) = 43)) (L.drop (k + 1)) by rw [Hok.out, Hd.out, decide_eq_false h43]; rfl)
            clear Hd Hok h43
            generalize (q.toNat : Int) = r at *
            go_wp2_with fail
            refine (HS.out _).mono ?_
            rintro y w2 ⟨rfl, rfl⟩
            go_wp2_with fail
            refine (HI.out _).mono ?_
            rintro y w3 ⟨rfl, rfl⟩
            go_wp2
            exact ⟨⟨k + 1, 45, by omega, by go_num, rfl, Hnx.out, trivial⟩, by simp [intOf]; omega⟩
        · have Hnx := hide (show okF false L = okF (decide (s = 43)) (L.drop (k + 1)) by rw [Hok.out, Hd.out, decide_eq_true hno, decide_eq_false h45]; rfl)
          have e45 : ((s.toNat : Int) == 45) = false := u8_ne h45
          clear Hd Hok h45 hno
          go_wp2_with fail
          refine (HS.out _).mono ?_
          rintro y w2 ⟨rfl, rfl⟩
          go_wp2_with fail
          refine (HI.out _).mono ?_
          rintro y w3 ⟨rfl, rfl⟩
          go_wp2
          exact ⟨⟨k + 1, s, by omega, by go_num, rfl, Hnx.out, trivial⟩, by simp [intOf]; omega⟩
      · have Hno := hide (show hright ⟨ha, han, hb, hbn, L⟩ = false by rw [HR.out, Hok.out, Hd.out, decide_eq_false hno]; rfl)
        rw [signV_no hno] at HI
        clear Hd Hok hno
        generalize (s.toNat : Int) = r at *
        go_wp2_with fail
        refine (HS.out _).mono ?_
        rintro y w2 ⟨rfl, rfl⟩
        go_wp2_with fail
        refine (HI.out _).mono ?_
        rintro y w3 ⟨rfl, rfl⟩
        go_wp2
        go_ret
        exact ⟨by rw [Hno.out]; rfl, Hb1.out⟩
    · obtain rfl : k = N := by omega
      have HR2 := hide (show hright ⟨ha, han, hb, hbn, L⟩ = (((decide (0 ≤ ha) && decide (0 ≤ hb)) && decide (han = m1)) && decide (hbn = m2)) by
        rw [HR.out, Hok.out, HN.out, List.drop_length]; rfl)
      clear Hok HR
      go_wp2_with fail
      refine (HC.out _ Hb1.out).mono ?_
      rintro y w2 ⟨rfl, hb2⟩
      have Hb2 := hide (Hb1.out.trans (hb2.mono Hb1.out.size))
      have d0 := cell_keep hb2 c0
      have d1 := cell_keep hb2 c1
      have d2 := cell_keep hb2 c2
      have d3 := cell_keep hb2 c3
      have d4 := cell_keep hb2 c4
      clear c0 c1 c2 c3 c4 hb2
      have f1 : ∀ z m : Int, z ≠ m → (z == m) = false := fun z m h => beq_eq_false_iff_ne.2 h
      by_cases g1 : 0 ≤ ha
      · by_cases g2 : 0 ≤ hb
        · by_cases g3 : han = (m1 : Int)
          · by_cases g4 : hbn = (m2 : Int)
            · have Hy := hide (show hright ⟨ha, han, hb, hbn, L⟩ = true by rw [HR2.out, decide_eq_true g1, decide_eq_true g2, decide_eq_true g3, decide_eq_true g4]; simp)
              subst g3 g4
              clear HR2
              go_wp2
              go_ret
              exact ⟨by rw [Hy.out]; rfl, Hb2.out⟩
            · have Hy := hide (show hright ⟨ha, han, hb, hbn, L⟩ = false by rw [HR2.out, decide_eq_true g1, decide_eq_true g2, decide_eq_true g3, decide_eq_false g4]; simp)
              have e4 := f1 _ _ g4
              subst g3
              clear g4
              clear HR2
              go_wp2
              go_ret
              exact ⟨by rw [Hy.out]; rfl, Hb2.out⟩
          · have Hy := hide (show hright ⟨ha, han, hb, hbn, L⟩ = false by rw [HR2.out, decide_eq_true g1, decide_eq_true g2, decide_eq_false g3]; simp)
            have e3 := f1 _ _ g3
            clear g3
            clear HR2
            go_wp2
            go_ret
            exact ⟨by rw [Hy.out]; rfl, Hb2.out⟩
        · have Hy := hide (show hright ⟨ha, han, hb, hbn, L⟩ = false by rw [HR2.out, decide_eq_true g1, decide_eq_false g2]; simp)
          have e2 : decide (0 ≤ hb) = false := decide_eq_false g2
          clear HR2
          go_wp2
          go_ret
          exact ⟨by rw [Hy.out]; rfl, Hb2.out⟩
      · have Hy := hide (show hright ⟨ha, han, hb, hbn, L⟩ = false by rw [HR2.out, decide_eq_false g1]; simp)
        have e1 : decide (0 ≤ ha) = false := decide_eq_false g1
        clear HR2
        go_wp2
        go_ret
        exact ⟨by rw [Hy.out]; rfl, Hb2.out⟩
end Go.Proofs.YtnehgogajghefaaGreatDoor.Hu
