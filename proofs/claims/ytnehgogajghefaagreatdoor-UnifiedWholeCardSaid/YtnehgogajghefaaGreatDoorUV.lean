/-
  unified: the statements' own example comes out true.
-/
import Derived.Test.YtnehgogajghefaaGreatDoorUT
import Derived.Test.YtnehgogajghefaaGreatDoorQ7
import Derived.Test.YtnehgogajghefaaGreatDoorIF
namespace Go.Proofs.YtnehgogajghefaaGreatDoor.Un
open Go Go.RowKit Kt Lw Li Df Hu

theorem lit_lines (w : World) (l : Ls) : Vs (w.alloc (.cells (texts l).toArray tS)) (fun _ => True) (some ⟨w.heap.size, 0, none⟩) l.length (texts l) :=
  ⟨by simp [texts], fun _ => ⟨w.heap.size, 0, rfl, trivial, fun j v hj => by
    rw [Nat.zero_add, (Row.fresh w _ _).cell]
    exact hj⟩⟩
theorem lit_hk (w : World) (h : Hk) (A : Option Addr) (c : Nat) (P : Nat → Prop) (hv : Vs w P A c (texts h.lines)) : Hks (w.alloc (.cells (hkC h (.slice A h.lines.length c)).toArray tH)) (some ⟨w.heap.size, 0, none⟩) 1 [h] :=
  ⟨by simp, fun _ => ⟨w.heap.size, 0, rfl, by simp, fun j e' hj => by
    have hj0 : j = 0 := by
      have := (List.getElem?_eq_some_iff.1 hj).1
      simpa using this
    subst hj0
    simp at hj
    subst hj
    refine ⟨A, c, fun k v hk => ?_, Lw.Vs.bound (Lw.Vs.below hv ((Below.refl _ w).alloc (Nat.le_refl _) _))⟩
    rw [show 0 + 5 * 0 + k = k from by omega, (Row.fresh w _ _).cell]
    exact hk⟩⟩
theorem ex_fit : Fit exU := by
  refine ⟨⟨by decide, by decide⟩, ⟨by decide, by decide⟩, by decide, fun x hx => ?_⟩
  simp only [List.mem_cons, List.not_mem_nil, or_false] at hx
  rcases hx with rfl | rfl <;> decide
theorem ex_len : (([exU].map hkT).flatten).length ≤ 1000000000 := by
  have h := ex_prt
  rw [prt, if_pos ex_tell] at h
  rw [h]
  decide
set_option maxRecDepth 100000 in
set_option maxHeartbeats 2000000 in
theorem awake_any (w : World) (hE : Env w) : Calls Tryz.prog 4 #[] w fun y w' => y = .returned (.bool true) ∧ Below w.heap.size w w' := by
  have HE := hide (fun w' (hb : Below w.heap.size w w') => hE.keep hb)
  clear hE
  go_enter Tryz.func4, Tryz.ntmps4
  go_wp2_with fail
  obtain ⟨wA, hwA⟩ : ∃ wA, wA = w.alloc (.cells #[.string ⟨#[45, 97, 10]⟩, .string ⟨#[43, 98]⟩] tS) := ⟨_, rfl⟩
  obtain ⟨wB, hwB⟩ : ∃ wB, wB = wA.alloc (.cells #[.int .i64 0, .int .i64 1, .int .i64 0, .int .i64 1, .slice (some ⟨w.heap.size, 0, none⟩) 2 2] tH) := ⟨_, rfl⟩
  obtain ⟨wC, hwC⟩ : ∃ wC, wC = wB.alloc (.cells #[.int .i64 0, .int .i64 1, .int .i64 0, .int .i64 1, .slice (some ⟨w.heap.size, 0, none⟩) 2 2] tH) := ⟨_, rfl⟩
  have hsA : wA.heap.size = w.heap.size + 1 := by rw [hwA]; exact World.size_alloc w _
  have hsB : wB.heap.size = w.heap.size + 1 + 1 := by rw [hwB, World.size_alloc, hsA]
  have hbA : Below w.heap.size w wA := by rw [hwA]; exact (Below.refl _ w).alloc (Nat.le_refl _) _
  have hbB : Below w.heap.size w wB := by rw [hwB]; exact hbA.alloc hbA.size _
  have hbC : Below w.heap.size w wC := by rw [hwC]; exact hbB.alloc hbB.size _
  have hvA : Vs wA (fun _ => True) (some ⟨w.heap.size, 0, none⟩) 2 (texts exU.lines) := by rw [hwA]; exact lit_lines w exU.lines
  have hvB : Vs wB (fun b => b < wB.heap.size) (some ⟨w.heap.size, 0, none⟩) 2 (texts exU.lines) := Lw.Vs.bound (Lw.Vs.below hvA (show Below wA.heap.size wA wB by rw [hwB]; exact (Below.refl _ wA).alloc (Nat.le_refl _) _))
  have hrB : Row wB (w.heap.size + 1) tH [.int .i64 0, .int .i64 1, .int .i64 0, .int .i64 1, .slice (some ⟨w.heap.size, 0, none⟩) 2 2] := by
    rw [hwB, ← hsA]; exact Row.fresh wA tH _
  have hrC := hrB.below (show Below wB.heap.size wB wC by rw [hwC]; exact (Below.refl _ wB).alloc (Nat.le_refl _) _) hrB.lt
  have hkC : Hks wC (some ⟨w.heap.size + 1 + 1, 0, none⟩) 1 [exU] := by
    rw [hwC, ← hsB]; exact lit_hk wB exU (some ⟨w.heap.size, 0, none⟩) 2 _ hvB
  rw [← hwA, ← hwB, ← hwC]
  have HrC := hide hrC
  have HbC := hide hbC
  have HvB := hide (Lw.Vs.below hvB (show Below wB.heap.size wB wC by rw [hwC]; exact (Below.refl _ wB).alloc (Nat.le_refl _) _))
  have HP := hide (print_any [exU] _ _ wC hkC (HE.out wC hbC) (by simp) ex_len (fun h hh => by rw [List.mem_singleton.1 hh]; exact ex_fit))
  rw [ex_prt] at HP
  clear hwA hwB hwC hsA hsB hbA hbB hbC hvA hvB hrB hrC hkC
  refine HP.out.mono ?_
  rintro y w4 ⟨rfl, hb4⟩
  have Hb4 := hide (HbC.out.trans (hb4.mono HbC.out.size))
  have Hr4 := hide (HrC.out.below hb4 HrC.out.lt)
  have Hv4 := hide (Lw.Vs.below HvB.out.bound hb4)
  have HP4 := hide (parse_any exT w4 (HE.out w4 Hb4.out) (by decide))
  rw [ex_parse] at HP4
  clear hb4 HrC HbC HvB HP
  go_wp2_with fail
  refine HP4.out.mono ?_
  rintro y w5 ⟨v, rfl, hv, hb5⟩
  obtain ⟨Av, cv, rfl, hks⟩ := hv.hks
  have Hb5 := hide (Hb4.out.trans (hb5.mono Hb4.out.size))
  have Hr5 := hide (Hr4.out.below hb5 Hr4.out.lt)
  have Hv5 := hide (Lw.Vs.below Hv4.out.bound hb5)
  have HP5 := hide (parse_any [120] w5 (HE.out w5 Hb5.out) (by decide))
  rw [ex_no] at HP5
  have Hks5 := hide hks
  clear hb5 Hr4 Hb4 Hv4 HP4 hks hv
  go_wp2_with fail
  refine HP5.out.mono ?_
  rintro y w6 ⟨v6, rfl, hv6, hb6⟩
  obtain ⟨A6, c6, rfl, _⟩ := hv6.hks
  have Hb6 := hide (Hb5.out.trans (hb6.mono Hb5.out.size))
  have Hr6 := hide (Hr5.out.below hb6 Hr5.out.lt)
  have Hv6 := hide (Lw.Vs.below Hv5.out.bound hb6)
  have Hks6 := hide (Hks5.out.keep hb6)
  have d0 := Hr6.out.cell 0
  have d1 := Hr6.out.cell 1
  have d2 := Hr6.out.cell 2
  have d3 := Hr6.out.cell 3
  have d4 := Hr6.out.cell 4
  simp only [List.getElem?_cons_zero, List.getElem?_cons_succ] at d0 d1 d2 d3 d4
  clear hb6 Hr5 Hb5 Hv5 HP5 Hks5 hv6
  have hk7 := lit_hk w6 exU (some ⟨w.heap.size, 0, none⟩) 2 _ Hv6.out
  have hb7 := (Below.refl w6.heap.size w6).alloc (Nat.le_refl _) (.cells (hkC exU (.slice (some ⟨w.heap.size, 0, none⟩) exU.lines.length 2)).toArray tH)
  have HSm := hide (hsame_any [exU] Av _ cv 1 _ (Hks6.out.keep hb7) hk7 (by simp) (fun h hh => by rw [List.mem_singleton.1 hh]; decide))
  have Hb7 := hide (Hb6.out.trans (hb7.mono Hb6.out.size))
  clear hk7 hb7 Hks6 Hv6 Hr6
  go_wp2_with fail
  refine HSm.out.mono ?_
  rintro y w8 ⟨rfl, hb8⟩
  have Hb8 := hide (Hb7.out.trans (hb8.mono Hb7.out.size))
  clear hb8 d0 d1 d2 d3 d4
  go_wp2
  go_ret
  exact ⟨rfl, Hb8.out⟩
end Go.Proofs.YtnehgogajghefaaGreatDoor.Un
