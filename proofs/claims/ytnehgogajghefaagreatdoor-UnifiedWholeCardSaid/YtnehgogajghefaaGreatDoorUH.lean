/-
  unified: numbers are read.
-/
import Derived.Test.YtnehgogajghefaaGreatDoorQ7
import Derived.Lib.ParseIntBMem
import Derived.Lib.ConvBytes
import Derived.Lib.AtoiErrMem
import Derived.Deep.CutRange
import Derived.Deep.CutBlock
namespace Go.Proofs.YtnehgogajghefaaGreatDoor.Un
open Go Go.RowKit Kt Lw Li Df Hu

set_option maxRecDepth 100000 in
set_option maxHeartbeats 4000000 in
theorem uint_any (s : List UInt8) (w : World) (hl : s.length ≤ 1000000) :
    Calls Tryz.prog 84 #[.string ⟨s.toArray⟩, .int .i64 10, .int .i64 31] w fun y w' => y = .returned (Lib.uintTupleM 126 2147483647 (Lib.parseUintB 31 s)) ∧ Below w.heap.size w w' := by
  by_cases h0 : s = []
  · subst h0
    go_enter Tryz.func84, Tryz.ntmps84
    go_wp2
    go_ret2
    exact ⟨rfl, Below.refl _ _⟩
  · have hp := hide (show Lib.parseUintB 31 s = Lib.parseUintM 2147483647 0 s by rw [Lib.parseUintB, if_neg h0])
    have he : s.isEmpty = false := by cases s with | nil => exact absurd rfl h0 | cons _ _ => rfl
    have h1 := Lib.run_convert_string_bytes (P := Tryz.prog) w 9 56 5 ⟨s.toArray⟩ Tryz.underlying9 Tryz.underlying56 Tryz.underlying5
    have hbel := Lib.bytesWorld_below w 5 ⟨s.toArray⟩
    have hcell := fun j hj => Lib.bytesWorld_cell w 5 ⟨s.toArray⟩ j hj
    have hsz : (ByteArray.mk s.toArray).size = s.length := rfl
    rw [hsz] at h1 hcell
    generalize Lib.bytesWorld w 5 ⟨s.toArray⟩ = w1 at *
    generalize grownCap w s.length 0 5 = cap at *
    obtain ⟨N, hN⟩ : ∃ N, N = s.length := ⟨_, rfl⟩
    rw [← hN] at h1 hcell hl
    have HN := hide hN
    have Hbel := hide hbel
    have Hcell := hide hcell
    obtain ⟨g, hg⟩ : ∃ g, g = w.heap.size := ⟨_, rfl⟩
    rw [← hg] at h1 Hcell
    have Hg := hide hg
    clear hN hbel hcell hsz hg h0
    go_enter Tryz.func84, Tryz.ntmps84
    go_wp2
    go_loopw [12, 13, 101] (fun us n i wr => ∃ (k : Nat) (z : Int), us = .bool false ∧ k ≤ N ∧ i = .int .i64 k ∧ n = .int .u64 z ∧ (0 ≤ z ∧ z ≤ 2147483647) ∧ Lib.parseUintM 2147483647 0 s = Lib.parseUintM 2147483647 z.toNat (s.drop k) ∧ wr = w1) (fun _ _ i _ => N - (intOf i).toNat)
    case atStart => exact ⟨0, 0, rfl, Nat.zero_le _, rfl, rfl, by omega, rfl, rfl⟩
    case round =>
      obtain ⟨k, z, rfl, hk, rfl, rfl, ⟨hz0, hz1⟩, hsp, rfl⟩ := hrel
      have Hacc := hide (show z.toNat ≤ 2147483647 ∧ (z.toNat : Int) = z by omega)
      obtain ⟨acc, hacc'⟩ : ∃ acc, acc = z.toNat := ⟨_, rfl⟩
      rw [← hacc'] at hsp Hacc
      have Hz := hide hacc'
      clear hacc'
      have Hsp := hide hsp
      clear hsp
      by_cases hlt : k < N
      · have ck := Hcell.out k hlt
        have Hdr := hide (show s.drop k = s.getD k 0 :: s.drop (k + 1) by
          rw [List.drop_eq_getElem_cons (by have := HN.out; omega)]
          simp [List.getElem?_eq_getElem (show k < s.length by have := HN.out; omega)])
        have ck2 : wr.cell? ⟨g, k, none⟩ = some (.int .u8 ((s.getD k 0).toNat : Int)) := ck
        clear ck
        have hx255 := (s.getD k 0).toNat_lt
        have Hpu := hide (show Lib.parseUintM 2147483647 acc (s.drop k) = if 48 ≤ (s.getD k 0).toNat ∧ (s.getD k 0).toNat ≤ 57 then (if 1844674407370955162 ≤ acc then .range else if 2147483647 < acc * 10 + ((s.getD k 0).toNat - 48) then .range else Lib.parseUintM 2147483647 (acc * 10 + ((s.getD k 0).toNat - 48)) (s.drop (k + 1))) else .syntax by rw [Hdr.out, Lib.parseUintM])
        obtain ⟨x, hx⟩ : ∃ x, x = (s.getD k 0).toNat := ⟨_, rfl⟩
        rw [← hx] at ck2 hx255 Hpu
        clear hx Hdr
        by_cases hd : 48 ≤ x ∧ x ≤ 57
        · obtain ⟨hd1, hd2⟩ := hd
          have e95 : ((x : Int) == 95) = false := beq_eq_false_iff_ne.2 (by omega)
          obtain ⟨d, hdx⟩ : ∃ d : Int, d = (x : Int) - 48 := ⟨_, rfl⟩
          have hwd : IntKind.u8.wrap ((x : Int) - 48) = d := by rw [IntWalk.u8_in _ (by omega)]; omega
          have hd9 : 0 ≤ d ∧ d ≤ 9 := by omega
          have hcut : decide (1844674407370955162 ≤ z) = false := decide_eq_false (by omega)
          have hmul : IntKind.u64.wrap (z * 10) = z * 10 := IntWalk.u64_in _ (by omega)
          have hadd : IntKind.u64.wrap (z * 10 + d) = z * 10 + d := IntWalk.u64_in _ (by omega)
          have hlow : decide (z * 10 + d < z * 10) = false := decide_eq_false (by omega)
          have hd10 : decide (10 ≤ d) = false := decide_eq_false (by omega)
          have hdt : d.toNat = x - 48 := by omega
          have Hdt := hide hdt
          have Hrd := hide (show (z * 10 + d).toNat = acc * 10 + (x - 48) by have := Hacc.out; omega)
          clear hdx hdt
          by_cases hov : 2147483647 < z * 10 + d
          · have Hend := hide (show Lib.parseUintB 31 s = .range by
              have h1 := Hacc.out
              have h2 := Hrd.out
              rw [hp.out, Hsp.out, Hpu.out, if_pos ⟨hd1, hd2⟩, if_neg (by omega), if_pos (by omega)])
            have hovd : decide (2147483647 < z * 10 + d) = true := decide_eq_true hov
            clear Hsp Hpu
            go_wp2
            go_ret2
            exact ⟨by rw [Hend.out]; rfl, Hbel.out⟩
          · have Hnx := hide (show Lib.parseUintM 2147483647 0 s = Lib.parseUintM 2147483647 (z * 10 + d).toNat (s.drop (k + 1)) by
              have h1 := Hacc.out
              have h2 := Hrd.out
              rw [Hsp.out, Hpu.out, if_pos ⟨hd1, hd2⟩, if_neg (by omega), if_neg (by omega), h2])
            have hovd : decide (2147483647 < z * 10 + d) = false := decide_eq_false hov
            clear Hsp Hpu
            go_wp2
            exact ⟨⟨k + 1, z * 10 + d, rfl, by omega, by go_num, rfl, ⟨by omega, by omega⟩, Hnx.out, trivial⟩, by simp [intOf]; omega⟩
        · have Hend := hide (show Lib.parseUintB 31 s = .syntax by rw [hp.out, Hsp.out, Hpu.out, if_neg hd])
          have HLow := hide (fun w' => Tryz.internal_strconv_lower (x : Int) w')
          clear Hsp Hpu
          have Hy := hide (show 0 ≤ bits .or .u8 (x : Int) 32 ∧ bits .or .u8 (x : Int) 32 ≤ 255 from by unfold bits; rw [IntKind.wrap_u8]; omega)
          generalize bits .or .u8 (x : Int) 32 = y at *
          have hdd : x < 48 ∨ 57 < x := by omega
          have hy : 0 ≤ y ∧ y ≤ 255 := Hy.out
          by_cases h95 : x = 95
          · have e95 : ((x : Int) == 95) = true := by rw [h95]; rfl
            have h48 : 48 ≤ x := by omega
            have h57 : ¬ x ≤ 57 := by omega
            clear h95
            by_cases hy1 : 97 ≤ y
            · by_cases hy2 : y ≤ 122
              · have hw1 : IntKind.u8.wrap (y - 97) = y - 97 := IntWalk.u8_in _ (by omega)
                have hw2 : IntKind.u8.wrap (y - 97 + 10) = y - 87 := by rw [IntWalk.u8_in _ (by omega)]; omega
                have h10 : decide (10 ≤ y - 87) = true := decide_eq_true (by omega)
                go_wp2_with fail
                refine (HLow.out _).mono ?_
                rintro q w2 ⟨rfl, rfl⟩
                go_wp2_with fail
                refine (HLow.out _).mono ?_
                rintro q w2 ⟨rfl, rfl⟩
                go_wp2_with fail
                refine (HLow.out _).mono ?_
                rintro q w2 ⟨rfl, rfl⟩
                go_wp2
                go_ret2
                exact ⟨by rw [Hend.out]; rfl, Hbel.out⟩
              · have hy2d : decide (y ≤ 122) = false := decide_eq_false hy2
                go_wp2_with fail
                refine (HLow.out _).mono ?_
                rintro q w2 ⟨rfl, rfl⟩
                go_wp2_with fail
                refine (HLow.out _).mono ?_
                rintro q w2 ⟨rfl, rfl⟩
                go_wp2
                go_ret2
                exact ⟨by rw [Hend.out]; rfl, Hbel.out⟩
            · have hy1d : decide (97 ≤ y) = false := decide_eq_false hy1
              go_wp2_with fail
              refine (HLow.out _).mono ?_
              rintro q w2 ⟨rfl, rfl⟩
              go_wp2
              go_ret2
              exact ⟨by rw [Hend.out]; rfl, Hbel.out⟩
          · have e95 : ((x : Int) == 95) = false := beq_eq_false_iff_ne.2 (by omega)
            clear h95
            by_cases h48 : 48 ≤ x
            · have h57 : ¬ x ≤ 57 := by omega
              by_cases hy1 : 97 ≤ y
              · by_cases hy2 : y ≤ 122
                · have hw1 : IntKind.u8.wrap (y - 97) = y - 97 := IntWalk.u8_in _ (by omega)
                  have hw2 : IntKind.u8.wrap (y - 97 + 10) = y - 87 := by rw [IntWalk.u8_in _ (by omega)]; omega
                  have h10 : decide (10 ≤ y - 87) = true := decide_eq_true (by omega)
                  go_wp2_with fail
                  refine (HLow.out _).mono ?_
                  rintro q w2 ⟨rfl, rfl⟩
                  go_wp2_with fail
                  refine (HLow.out _).mono ?_
                  rintro q w2 ⟨rfl, rfl⟩
                  go_wp2_with fail
                  refine (HLow.out _).mono ?_
                  rintro q w2 ⟨rfl, rfl⟩
                  go_wp2
                  go_ret2
                  exact ⟨by rw [Hend.out]; rfl, Hbel.out⟩
                · have hy2d : decide (y ≤ 122) = false := decide_eq_false hy2
                  go_wp2_with fail
                  refine (HLow.out _).mono ?_
                  rintro q w2 ⟨rfl, rfl⟩
                  go_wp2_with fail
                  refine (HLow.out _).mono ?_
                  rintro q w2 ⟨rfl, rfl⟩
                  go_wp2
                  go_ret2
                  exact ⟨by rw [Hend.out]; rfl, Hbel.out⟩
              · have hy1d : decide (97 ≤ y) = false := decide_eq_false hy1
                go_wp2_with fail
                refine (HLow.out _).mono ?_
                rintro q w2 ⟨rfl, rfl⟩
                go_wp2
                go_ret2
                exact ⟨by rw [Hend.out]; rfl, Hbel.out⟩
            · skip
              by_cases hy1 : 97 ≤ y
              · by_cases hy2 : y ≤ 122
                · have hw1 : IntKind.u8.wrap (y - 97) = y - 97 := IntWalk.u8_in _ (by omega)
                  have hw2 : IntKind.u8.wrap (y - 97 + 10) = y - 87 := by rw [IntWalk.u8_in _ (by omega)]; omega
                  have h10 : decide (10 ≤ y - 87) = true := decide_eq_true (by omega)
                  go_wp2_with fail
                  refine (HLow.out _).mono ?_
                  rintro q w2 ⟨rfl, rfl⟩
                  go_wp2_with fail
                  refine (HLow.out _).mono ?_
                  rintro q w2 ⟨rfl, rfl⟩
                  go_wp2_with fail
                  refine (HLow.out _).mono ?_
                  rintro q w2 ⟨rfl, rfl⟩
                  go_wp2
                  go_ret2
                  exact ⟨by rw [Hend.out]; rfl, Hbel.out⟩
                · have hy2d : decide (y ≤ 122) = false := decide_eq_false hy2
                  go_wp2_with fail
                  refine (HLow.out _).mono ?_
                  rintro q w2 ⟨rfl, rfl⟩
                  go_wp2_with fail
                  refine (HLow.out _).mono ?_
                  rintro q w2 ⟨rfl, rfl⟩
                  go_wp2
                  go_ret2
                  exact ⟨by rw [Hend.out]; rfl, Hbel.out⟩
              · have hy1d : decide (97 ≤ y) = false := decide_eq_false hy1
                go_wp2_with fail
                refine (HLow.out _).mono ?_
                rintro q w2 ⟨rfl, rfl⟩
                go_wp2
                go_ret2
                exact ⟨by rw [Hend.out]; rfl, Hbel.out⟩
      · have Hend := hide (show Lib.parseUintB 31 s = .ok z.toNat by
          rw [hp.out, Hsp.out, List.drop_of_length_le (by have := HN.out; omega), Lib.parseUintM, Hz.out])
        have Hzz := hide (show ((z.toNat : Nat) : Int) = z by omega)
        go_wp2
        go_ret2
        exact ⟨by rw [Hend.out, Lib.uintTupleM, Hzz.out]; rfl, Hbel.out⟩
end Go.Proofs.YtnehgogajghefaaGreatDoor.Un
