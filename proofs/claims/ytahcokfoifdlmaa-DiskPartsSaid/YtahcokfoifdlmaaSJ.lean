/-
  Written in parts, or at once, a disk has the same: the law DiskParts.
-/
import Derived.Test.YtahcokfoifdlmaaSI
namespace Go.Proofs.Ytahcokfoifdlmaa.Dk
open Go Go.RowKit Kt Kg Wr Lw

theorem parts_yes (b : List UInt8) (n k : Nat) (h : b.length ≤ n) : put (new n) b = (⟨b, n, -1, false⟩, 0) ∧ put (new n) (b.take k) = (⟨b.take k, n, -1, false⟩, 0) ∧ put ⟨b.take k, n, -1, false⟩ (b.drop k) = (⟨b, n, -1, false⟩, 0) := by
  have hl : (b.take k).length + (b.drop k).length = b.length := by rw [← List.length_append, List.take_append_drop]
  refine ⟨?_, ?_, ?_⟩
  · rw [new, put_plain, if_neg (by simp; omega)]; rfl
  · rw [new, put_plain, if_neg (by simp only [List.length_nil]; omega)]; rfl
  · rw [put_plain, if_neg (by omega), List.take_append_drop]
theorem parts_no (b : List UInt8) (n k : Nat) (h : n < b.length) (hk : k ≤ b.length) : put (new n) b = (new n, 8) ∧ ∃ s2 e2 s3 e3, put (new n) (b.take k) = (s2, e2) ∧ put s2 (b.drop k) = (s3, e3) ∧ decide (e2 = 0) = decide (k ≤ n) ∧ e3 ≠ 9 ∧ s3.k.length ≤ n := by
  have hl : (b.take k).length = k := by rw [List.length_take, Nat.min_eq_left hk]
  have hd : (b.drop k).length = b.length - k := List.length_drop
  refine ⟨?_, ?_⟩
  · rw [new, put_plain, if_pos (by simp; omega)]
  · by_cases hkn : k ≤ n
    · refine ⟨⟨b.take k, n, -1, false⟩, 0, ⟨b.take k, n, -1, false⟩, 8, ?_, ?_, ?_, by decide, by simp only []; omega⟩
      · rw [new, put_plain, if_neg (by simp only [List.length_nil]; omega)]; rfl
      · rw [put_plain, if_pos (by omega)]
      · rw [decide_eq_true hkn]; rfl
    · by_cases h3 : n < b.length - k
      · refine ⟨new n, 8, new n, 8, ?_, ?_, ?_, by decide, by simp [new]⟩
        · rw [new, put_plain, if_pos (by simp only [List.length_nil]; omega)]
        · rw [new, put_plain, if_pos (by simp only [List.length_nil]; omega)]
        · rw [decide_eq_false hkn]; rfl
      · refine ⟨new n, 8, ⟨b.drop k, n, -1, false⟩, 0, ?_, ?_, ?_, by decide, by simp only []; omega⟩
        · rw [new, put_plain, if_pos (by simp only [List.length_nil]; omega)]
        · rw [new, put_plain, if_neg (by simp only [List.length_nil]; omega)]; rfl
        · rw [decide_eq_false hkn]; rfl
theorem put_two {w : World} {S : Nat → Prop} {g : Nat} {s : St} (h : DkIn w S g s) (hf : s.fit) (bs : List UInt8) (A : Option Addr) (n c : Nat) (Pb : Nat → Prop) (hs : Sl w Pb A c bs) (hn : n = bs.length) :
    Calls Try.prog 20 #[.pointer (some ⟨g, 0, none⟩), .slice A n c] w fun y w' => Does w S g (put s bs) y w' := by
  subst hn
  exact put_any h hf bs A c Pb hs
set_option maxHeartbeats 4000000 in
set_option maxRecDepth 100000 in
theorem lawParts_any (bs : List UInt8) (ct room : Nat) (A : Option Addr) (c : Nat) (P : Nat → Prop) (w : World) (hsb : Sl w P A c bs) (hbl : bs.length ≤ 9223372036854775807) (hct : ct ≤ 255) (_hr : room ≤ 255) :
    Calls Try.prog 5 #[.slice A bs.length c, .int .u8 (ct : Int), .int .u8 (room : Int)] w fun y w' => y = .returned (.bool true) ∧ Below w.heap.size w w' := by
  have HWk := hide (wake_any w)
  obtain ⟨n, hn⟩ : ∃ n, n = room % 81 := ⟨_, rfl⟩
  have hn1 : n ≤ 80 := by omega
  have hmod : ((room : Int)).tmod 81 = (n : Int) := by rw [hn]; rfl
  have HNew := hide (fun wz => new_yes n (by omega) wz)
  have Hsb := hide (hsb.bound)
  obtain ⟨Nb, hNb⟩ : ∃ N, N = bs.length := ⟨_, rfl⟩
  rw [← hNb] at hbl ⊢
  have hcb : Nb ≤ c := by rw [hNb]; exact hsb.1
  have HNb := hide hNb
  clear hsb hn hNb
  go_enter Try.func5, Try.ntmps5
  go_wp2_with fail
  refine HWk.out.mono ?_
  rintro y w1 ⟨rfl, hb1⟩
  have HB1 := hide hb1
  clear hb1 HWk
  by_cases hb40 : Nb ≤ 40
  · have hd40 : decide (40 < (Nb : Int)) = false := decide_eq_false (by omega)
    have hd40' : ¬ 40 < Nb := by omega
    obtain ⟨Qn, hQ⟩ : ∃ Q, Q = Nb + 1 := ⟨_, rfl⟩
    obtain ⟨k, hk⟩ : ∃ k, k = ct % Qn := ⟨_, rfl⟩
    have hkN : k ≤ Nb := by have := Nat.mod_lt ct (show 0 < Qn by omega); omega
    have hwq : IntKind.i64.wrap ((Nb : Int) + 1) = (Qn : Int) := by rw [IntWalk.i64_in _ (by omega)]; omega
    have hQ0 : ((Qn : Int) == 0) = false := by rw [beq_eq_false_iff_ne]; omega
    have hQ1 : ¬ Qn = 0 := by omega
    have hmod2 : ((ct : Int)).tmod (Qn : Int) = (k : Int) := by rw [hk]; rfl
    have hwk : IntKind.i64.wrap (k : Int) = (k : Int) := IntWalk.i64_in _ (by omega)
    have Hfr := hide (fun wz => run_front wz A Nb c k hkN hcb)
    have Hbk := hide (fun wz => run_back wz A Nb c k hkN hcb)
    have HSf := hide (sl_front Hsb.out k)
    have HSk := hide (Hsb.out.cut (k := k) (by have := HNb.out; omega))
    obtain ⟨Ax, hAx⟩ : ∃ Ax, Ax = (if c = k then A else A.map (·.add k)) := ⟨_, rfl⟩
    obtain ⟨cx, hcx⟩ : ∃ cx, cx = c - k := ⟨_, rfl⟩
    obtain ⟨Mb, hMb⟩ : ∃ Mb, Mb = Nb - k := ⟨_, rfl⟩
    rw [← hAx, ← hcx, ← hMb] at Hbk
    rw [← hAx, ← hcx] at HSk
    have HlF := hide (show k = (bs.take k).length by have := HNb.out; rw [List.length_take]; omega)
    have HlK := hide (show Mb = (bs.drop k).length by have := HNb.out; rw [List.length_drop]; omega)
    have HkN := hide hkN
    clear hQ hk hAx hcx hMb hcb
    go_wp2_with fail
    refine (HNew.out w1).mono ?_
    rintro y w2 ⟨g, rfl, hD, hg, hb2⟩
    have HB2 := hide (HB1.out.trans (hb2.mono HB1.out.size))
    have HD := hide hD
    have HG := hide hg
    have HZ2 := hide hb2.size
    clear hD hg hb2
    go_wp2_with fail
    refine (HNew.out w2).mono ?_
    rintro y w3 ⟨g', rfl, hX, hg', hb3⟩
    have HB3 := hide (HB2.out.trans (hb3.mono HB2.out.size))
    have HD3 := hide (HD.out.below hb3)
    have HX := hide hX
    have hlt := HD.out.lt g rfl
    have Hap := hide (show ∀ k, k = g → ¬ k = g' from fun k e e' => by omega)
    have HX0 := hide hX.lt
    have HLo := hide (show w.heap.size ≤ g ∧ w.heap.size ≤ g' from ⟨by have := HB1.out.size; have := HG.out; omega, by have := HB2.out.size; omega⟩)
    clear hX hg' hb3 HB1 HB2 HNew HD hlt HG HZ2
    have HSb3 := hide (Hsb.out.move (w' := w3) fun b hb _ => HB3.out.block b hb.2)
    have fit0 : (new n).fit := new_fit (by omega)
    have HP1 := hide (put_two HD3.out fit0 bs A Nb c _ HSb3.out HNb.out)
    have fit1 := put_fit (b := bs) fit0
    have fit2 := put_fit (b := bs.take k) fit0
    have fit3 := put_fit (b := bs.drop k) fit2
    go_wp2_with fail
    refine HP1.out.mono ?_
    rintro y w4 ⟨rfl, S4, hD4, hO4, hS4⟩
    have HB4 := hide (oth_low hO4 HB3.out fun k e => by have := HLo.out.1; omega)
    have HD4 := hide hD4
    have HX4 := hide (HX.out.oth hO4 fun k e e' => Hap.out k e' e)
    have Hap4 := hide (ap hS4 Hap.out HX0.out)
    have HSf4 := hide (HSf.out.move (w' := w4) fun b hb _ => HB4.out.block b hb.2)
    have HP2 := hide (put_two HX4.out fit0 (bs.take k) A k c _ HSf4.out HlF.out)
    have HL4 := hide hD4.lt
    clear hD4 hO4 hS4 HP1 HD3 HX HX0 Hap HB3 HSb3
    have hfr := Hfr.out
    go_wp2_with fail
    clear hfr
    refine HP2.out.mono ?_
    rintro y w5 ⟨rfl, S5, hX5, hO5, hS5⟩
    have HB5 := hide (oth_low hO5 HB4.out fun k e => by have := HLo.out.2; omega)
    have HD5 := hide (HD4.out.oth hO5 Hap4.out)
    have HX5 := hide hX5
    have Hap5 := hide (ap hS5 (fun k e h => Hap4.out k h e) HL4.out)
    have Hlo5 := hide (lo hS5 (fun k e => by have := HLo.out.2; omega) HB4.out.size)
    have HSk5 := hide (HSk.out.move (w' := w5) fun b hb _ => HB5.out.block b hb.2)
    have HP3 := hide (put_two HX5.out fit2 (bs.drop k) Ax Mb cx _ HSk5.out HlK.out)
    clear hX5 hO5 hS5 HP2 HD4 HX4 Hap4 HB4 HSf4 HL4
    have hbk := Hbk.out
    go_wp2_with fail
    clear hbk
    refine HP3.out.mono ?_
    rintro y w6 ⟨rfl, S6, hX6, hO6, hS6⟩
    have HB6 := hide (oth_low hO6 HB5.out Hlo5.out)
    have HD6 := hide (HD5.out.oth hO6 fun k h e => Hap5.out k e h)
    have HX6 := hide hX6
    clear hX6 hO6 hS6 HP3 HD5 HX5 Hap5 HB5 HSk5 Hlo5
    by_cases hnb : Nb ≤ n
    · obtain ⟨q1, q2, q3⟩ := parts_yes bs n k (by have := HNb.out; omega)
      have hd : decide (Nb ≤ n) = true := decide_eq_true hnb
      rw [q2, q3] at HX6 fit3
      rw [q1] at HD6 fit1
      rw [q1, q2, q3]
      have HBd := hide (bytes_call HD6.out fit1)
      have HlB := hide (show bs.length ≤ 9223372036854775807 by have := HNb.out; omega)
      clear q1 q2 q3 fit0 fit2
      go_wp2_with fail
      refine HBd.out.mono ?_
      rintro y w7 ⟨v, rfl, hown, hb7⟩
      obtain ⟨A7, c7, rfl, hs7⟩ := hown.sl
      have HS7 := hide hs7
      have HB7 := hide (HB6.out.trans (hb7.mono HB6.out.size))
      have HBx := hide (bytes_call (HX6.out.below hb7) fit3)
      rw [show (⟨bs, n, -1, false⟩ : St).k.length = Nb from HNb.out.symm]
      clear hown hb7 hs7 HBd HB6 HD6 HX6
      go_wp2_with fail
      refine HBx.out.mono ?_
      rintro y w8 ⟨v, rfl, hown, hb8⟩
      obtain ⟨A8, c8, rfl, hs8⟩ := hown.sl
      have HS8 := hide hs8
      have HS7b := hide (HS7.out.bound.move (w' := w8) fun b hb _ => hb8.block b hb.2)
      have HB8 := hide (HB7.out.trans (hb8.mono HB7.out.size))
      rw [show (⟨bs, n, -1, false⟩ : St).k.length = Nb from HNb.out.symm]
      clear hown hb8 hs8 HBx HB7 HS7
      have HT := hide (bytes_two bs bs A7 A8 Nb Nb c7 c8 _ _ w8 HS7b.out HS8.out HNb.out HNb.out HlB.out)
      rw [decide_eq_true rfl] at HT
      go_wp2_with fail
      refine HT.out.mono ?_
      rintro y w9 ⟨rfl, hb9⟩
      have HB9 := hide (HB8.out.trans (hb9.mono HB8.out.size))
      clear hb9
      go_wp2
      go_ret
      exact ⟨rfl, HB9.out⟩
    · obtain ⟨q1, s2, e2, s3, e3, q2, q3, q4, q5, q6⟩ := parts_no bs n k (by have := HNb.out; omega) (by have := HNb.out; have := HkN.out; omega)
      have hd : decide (Nb ≤ n) = false := decide_eq_false hnb
      have hd' : ¬ Nb ≤ n := hnb
      rw [q2] at HX6 ⊢
      rw [q3] at HX6 ⊢
      rw [q1] at HD6
      rw [q1]
      have HZd := hide (size_any HD6.out)
      have HZx := hide (size_any HX6.out)
      obtain ⟨R, hR⟩ : ∃ R, R = s3.k.length := ⟨_, rfl⟩
      simp only [] at HZx
      rw [← hR] at HZx q6
      have hRn : decide (R ≤ n) = true := decide_eq_true q6
      have he2 : ((e2 : Int) == 0) = decide (k ≤ n) := by rw [← q4, Bool.eq_iff_iff, beq_iff_eq, decide_eq_true_eq]; omega
      have he2' : ((e2 : Int) == 0) = decide ((k : Int) ≤ (n : Int)) := by rw [he2, decide_eq_decide]; omega
      have he3 : ((e3 : Int) == 9) = false := by rw [beq_eq_false_iff_ne]; omega
      have he4 : ((e3 : Int) != 9) = true := by rw [bne_iff_ne]; omega
      generalize hkn : decide (k ≤ n) = bkn at *
      clear q1 q2 q3 q4 q5 fit0 fit1 fit2 fit3 hR
      go_wp2_with fail
      refine HZd.out.mono ?_
      rintro y w7 ⟨rfl, rfl⟩
      go_wp2_with fail
      refine HZx.out.mono ?_
      rintro y w7 ⟨rfl, rfl⟩
      go_wp2
      go_ret
      exact ⟨by simp, HB6.out⟩
  · have hd40 : decide (40 < (Nb : Int)) = true := decide_eq_true (by omega)
    have hd40' : 40 < Nb := by omega
    go_wp2
    go_ret
    exact ⟨rfl, HB1.out⟩
end Go.Proofs.Ytahcokfoifdlmaa.Dk
