/-
  order: ids sorted by rank by the library: up to fourteen of them.
-/
import Derived.Test.YtplmcpdlommmaaaCV
namespace Go.Proofs.Ytplmcpdlommmaaa.Oq
open Go Go.RowKit Kt Kg Lw Tr Dq

theorem pdqS_int {w : World} {g gd cap n : Nat} {D : List Nd} (H : Cmp w g D gd) {W : World} (hW : w.grownBy W (some g)) {l : List Bs} (hO : OwT W 0 tId (slV g n cap) l) (hn : n ≤ 1000) (hs : ∀ x ∈ l, x.length ≤ 50) (a b : Nat) (ha : a ≤ b) (hb : b ≤ n) (h12 : b ≤ a + 12) (L A B : Int) (hA : A = (a : Int)) (hB : B = (b : Int)) :
    Calls Try.prog 75 #[slV g n cap, .int .i64 A, .int .i64 B, .int .i64 L, .func (.func fCmp) #[.agg #[pt gd]] #[]] W fun y w' => y = .returned (.tuple #[]) ∧ ∃ l', OwT w' 0 tId (slV g n cap) l' ∧ w.grownBy w' (some g) ∧ Mvd l l' a b ∧ Asc D l' a b := by
  subst hA hB
  exact pdqS_any H hW hO hn hs a b ha hb h12 L
theorem insert_int {w : World} {g gd cap n : Nat} {D : List Nd} (H : Cmp w g D gd) {W : World} (hW : w.grownBy W (some g)) {l : List Bs} (hO : OwT W 0 tId (slV g n cap) l) (hn : n ≤ 1000) (hs : ∀ x ∈ l, x.length ≤ 50) (a b : Nat) (ha : a ≤ n) (hb : b ≤ n) (A B : Int) (hA : A = (a : Int)) (hB : B = (b : Int)) :
    Calls Try.prog 95 #[slV g n cap, .int .i64 A, .int .i64 B, .func (.func fCmp) #[.agg #[pt gd]] #[]] W fun y w' => y = .returned (.tuple #[]) ∧ ∃ l', OwT w' 0 tId (slV g n cap) l' ∧ w.grownBy w' (some g) ∧ Mvd l l' a b ∧ Asc D l' a b := by
  subst hA hB
  exact insert_any H hW hO hn hs a b ha hb
theorem pdq_end {D : List Nd} {P : Bs} {l1 l2 l3 : List Bs} {n m a b c d : Nat} (hd : Don D P l1 n m) (hl : l1.length = n) (h1 : Mvd l1 l2 a b) (a1 : Asc D l2 a b) (h2 : Mvd l2 l3 c d) (a2 : Asc D l3 c d)
    (hc : (a = 0 ∧ b = m ∧ c = m + 1 ∧ d = n) ∨ (a = m + 1 ∧ b = n ∧ c = 0 ∧ d = m)) : Asc D l3 0 n := by
  have hm := hd.mn
  have hl2 := h1.len
  rcases hc with ⟨rfl, rfl, rfl, rfl⟩ | ⟨rfl, rfl, rfl, rfl⟩
  · exact ((hd.mv h1 (by omega) (.inl (by omega)) (by omega) hl).mv h2 (by omega) (.inr (by omega)) (by omega) (by omega)).asc (a1.mv h2 (.inl (by omega))) a2
  · exact ((hd.mv h1 (by omega) (.inr (by omega)) (by omega) hl).mv h2 (by omega) (.inl (by omega)) (by omega) (by omega)).asc a2 (a1.mv h2 (.inr (by omega)))
set_option maxRecDepth 100000 in
set_option maxHeartbeats 8000000 in
/-- thirteen, or fourteen, none of them twice -/
theorem pdqL_any {w : World} {g gd cap n : Nat} {D : List Nd} (H : Cmp w g D gd) {W : World} (hW : w.grownBy W (some g)) {l : List Bs} (hO : OwT W 0 tId (slV g n cap) l) (hn : n = 13 ∨ n = 14) (hs : ∀ x ∈ l, x.length ≤ 50) (hu : l.Nodup) :
    Calls Try.prog 75 #[slV g n cap, .int .i64 0, .int .i64 n, .int .i64 4, .func (.func fCmp) #[.agg #[pt gd]] #[]] W fun y w' => y = .returned (.tuple #[]) ∧ ∃ l', OwT w' 0 tId (slV g n cap) l' ∧ w.grownBy w' (some g) ∧ l'.Perm l ∧ Asc D l' 0 n := by
  have HPv := hide (pivot_any H hW hO hn hs hu)
  have HPa := hide (fun (W : World) (hW : w.grownBy W (some g)) (hO : OwT W 0 tId (slV g n cap) l) => partial_any H hW hO (by omega) hs)
  have HPt := hide (fun (W : World) (hW : w.grownBy W (some g)) (hO : OwT W 0 tId (slV g n cap) l) (m : Nat) (hm : m < n) => partition_any H hW hO (by omega) hs m hm)
  have HPd := hide (fun (W : World) (l' : List Bs) (hp : l'.Perm l) (hW : w.grownBy W (some g)) (hO : OwT W 0 tId (slV g n cap) l') => pdqS_int H hW hO (by omega) (fun x hx => hs x (hp.mem_iff.1 hx)))
  have HIn := hide (fun (W : World) (l' : List Bs) (hp : l'.Perm l) (hW : w.grownBy W (some g)) (hO : OwT W 0 tId (slV g n cap) l') => insert_int H hW hO (by omega) (fun x hx => hs x (hp.mem_iff.1 hx)))
  have HL := hide (own_len hO)
  clear H hW hO hs hu
  rcases hn with rfl | rfl
  · go_enter Try.func75, Try.ntmps75
    go_wp2
    refine wp_loop_rounds 2 ?_
    rw [rounds_succ]
    go_wp2_with fail
    refine HPv.out.mono ?_
    rintro y w1 ⟨m, h, rfl, hh, hm, ho, hw⟩
    have HM := hide hm
    have HO := hide ho
    have HW := hide hw
    clear hm ho hw HPv
    rcases hh with rfl | rfl
    · go_wp2
      go_quiet (fail)
      obtain ⟨wq, hwq⟩ : ∃ z, z = w1.drewN nq := ⟨_, rfl⟩
      rw [← hwq]
      have HOq := hide (show OwT wq 0 tId (slV g 13 cap) l from by rw [hwq]; exact HO.out.drewN nq)
      have HWq := hide (show w.grownBy wq (some g) from by rw [hwq]; exact ⟨HW.out.os, HW.out.tape, HW.out.output, HW.out.size, HW.out.block⟩)
      clear hwq HO HW
      go_wp2_with fail
      refine (HPt.out wq HWq.out HOq.out m HM.out.mn).mono ?_
      rintro y w3 ⟨md, r3, l1, rfl, hd, hp, ho, hw⟩
      have hmid : 1 ≤ md ∧ md + 2 ≤ 13 := by
        obtain ⟨x, hx, rx⟩ := HM.out.lo
        obtain ⟨y, hy, ry⟩ := HM.out.hi
        exact hd.mid (own_len ho) (hp.mem_iff.2 hx) (hp.mem_iff.2 hy) rx ry
      have HD := hide hd
      have HPm := hide hp
      have HL1 := hide (own_len ho)
      have HO := hide ho
      have HW := hide hw
      clear hd hp ho hw HOq HWq HPt HM
      obtain ⟨k, hk⟩ : ∃ k, md + 1 + k = 13 := ⟨13 - md - 1, by omega⟩
      have e1 : (13 : Int) - (md : Int) = ((k + 1 : Nat) : Int) := by omega
      have e2 : (13 : Int) - ((md : Int) + 1) = (k : Int) := by omega
      have w1' : IntKind.i64.wrap (md : Int) = (md : Int) := wrap_small (by omega)
      have w2' : IntKind.i64.wrap (k : Int) = (k : Int) := wrap_small (by omega)
      have d2 : decide ((k : Int) ≤ 12) = true := decide_eq_true (by omega)
      have d3 : decide ((md : Int) ≤ 12) = true := decide_eq_true (by omega)
      have d4 : k ≤ 12 := by omega
      have d5 : md ≤ 12 := by omega
      have HK := hide hk
      have HMid := hide hmid
      clear hmid
      by_cases hlr : md < k + 1
      · have d1 : decide ((md : Int) < (k : Int) + 1) = true := decide_eq_true (by omega)
        go_wp2_with fail
        refine (HPd.out w3 l1 HPm.out HW.out HO.out 0 md (by omega) (by omega) (by omega) 4 _ _ rfl rfl).mono ?_
        rintro y w4 ⟨rfl, l2, ho, hw, hv, ha⟩
        have HO4 := hide ho
        have HW4 := hide hw
        have HV4 := hide hv
        have HA4 := hide ha
        clear ho hw hv ha HO HW HPd
        go_wp2
        rw [rounds_succ]
        go_wp2_with fail
        refine (HIn.out w4 l2 (HV4.out.perm.trans HPm.out) HW4.out HO4.out (md + 1) 13 (by omega) (by omega) _ _ rfl rfl).mono ?_
        rintro y w5 ⟨rfl, l3, ho, hw, hv, ha⟩
        have HF := hide (show ∃ l', OwT w5 0 tId (slV g 13 cap) l' ∧ w.grownBy w5 (some g) ∧ l'.Perm l ∧ Asc D l' 0 13 from ⟨l3, ho, hw, hv.perm.trans (HV4.out.perm.trans HPm.out), pdq_end HD.out HL1.out HV4.out HA4.out hv ha (.inl ⟨rfl, rfl, rfl, rfl⟩)⟩)
        clear ho hw hv ha HO4 HW4 HV4 HA4 HIn
        go_wp2
        (try simp only [Exit.inBlock, Exit.then])
        refine bodyPost_ret (results_none rfl _ _ _) rfl ?_
        exact ⟨rfl, HF.out⟩
      · have d1 : decide ((md : Int) < (k : Int) + 1) = false := decide_eq_false (by omega)
        go_wp2_with fail
        refine (HPd.out w3 l1 HPm.out HW.out HO.out (md + 1) 13 (by omega) (by omega) (by omega) 4 _ _ rfl rfl).mono ?_
        rintro y w4 ⟨rfl, l2, ho, hw, hv, ha⟩
        have HO4 := hide ho
        have HW4 := hide hw
        have HV4 := hide hv
        have HA4 := hide ha
        clear ho hw hv ha HO HW HPd
        go_wp2
        rw [rounds_succ]
        go_wp2_with fail
        refine (HIn.out w4 l2 (HV4.out.perm.trans HPm.out) HW4.out HO4.out 0 md (by omega) (by omega) _ _ rfl rfl).mono ?_
        rintro y w5 ⟨rfl, l3, ho, hw, hv, ha⟩
        have HF := hide (show ∃ l', OwT w5 0 tId (slV g 13 cap) l' ∧ w.grownBy w5 (some g) ∧ l'.Perm l ∧ Asc D l' 0 13 from ⟨l3, ho, hw, hv.perm.trans (HV4.out.perm.trans HPm.out), pdq_end HD.out HL1.out HV4.out HA4.out hv ha (.inr ⟨rfl, rfl, rfl, rfl⟩)⟩)
        clear ho hw hv ha HO4 HW4 HV4 HA4 HIn
        go_wp2
        (try simp only [Exit.inBlock, Exit.then])
        refine bodyPost_ret (results_none rfl _ _ _) rfl ?_
        exact ⟨rfl, HF.out⟩
    · go_wp2_with fail
      refine (HPa.out w1 HW.out HO.out).mono ?_
      rintro y w2 ⟨r, rfl, hr, ho, hw⟩
      have HR := hide hr
      have HO := hide ho
      have HW := hide hw
      clear hr ho hw HPa
      cases r with
      | true =>
        go_wp2
        (try simp only [Exit.inBlock, Exit.then])
        refine bodyPost_ret (results_none rfl _ _ _) rfl ?_
        exact ⟨rfl, l, HO.out, HW.out, List.Perm.refl _, HR.out (by trivial)⟩
      | false =>
        go_wp2
        go_quiet (fail)
        obtain ⟨wq, hwq⟩ : ∃ z, z = w2.drewN nq := ⟨_, rfl⟩
        rw [← hwq]
        have HOq := hide (show OwT wq 0 tId (slV g 13 cap) l from by rw [hwq]; exact HO.out.drewN nq)
        have HWq := hide (show w.grownBy wq (some g) from by rw [hwq]; exact ⟨HW.out.os, HW.out.tape, HW.out.output, HW.out.size, HW.out.block⟩)
        clear hwq HO HW
        go_wp2_with fail
        refine (HPt.out wq HWq.out HOq.out m HM.out.mn).mono ?_
        rintro y w3 ⟨md, r3, l1, rfl, hd, hp, ho, hw⟩
        have hmid : 1 ≤ md ∧ md + 2 ≤ 13 := by
          obtain ⟨x, hx, rx⟩ := HM.out.lo
          obtain ⟨y, hy, ry⟩ := HM.out.hi
          exact hd.mid (own_len ho) (hp.mem_iff.2 hx) (hp.mem_iff.2 hy) rx ry
        have HD := hide hd
        have HPm := hide hp
        have HL1 := hide (own_len ho)
        have HO := hide ho
        have HW := hide hw
        clear hd hp ho hw HOq HWq HPt HM
        obtain ⟨k, hk⟩ : ∃ k, md + 1 + k = 13 := ⟨13 - md - 1, by omega⟩
        have e1 : (13 : Int) - (md : Int) = ((k + 1 : Nat) : Int) := by omega
        have e2 : (13 : Int) - ((md : Int) + 1) = (k : Int) := by omega
        have w1' : IntKind.i64.wrap (md : Int) = (md : Int) := wrap_small (by omega)
        have w2' : IntKind.i64.wrap (k : Int) = (k : Int) := wrap_small (by omega)
        have d2 : decide ((k : Int) ≤ 12) = true := decide_eq_true (by omega)
        have d3 : decide ((md : Int) ≤ 12) = true := decide_eq_true (by omega)
        have d4 : k ≤ 12 := by omega
        have d5 : md ≤ 12 := by omega
        have HK := hide hk
        have HMid := hide hmid
        clear hmid
        by_cases hlr : md < k + 1
        · have d1 : decide ((md : Int) < (k : Int) + 1) = true := decide_eq_true (by omega)
          go_wp2_with fail
          refine (HPd.out w3 l1 HPm.out HW.out HO.out 0 md (by omega) (by omega) (by omega) 4 _ _ rfl rfl).mono ?_
          rintro y w4 ⟨rfl, l2, ho, hw, hv, ha⟩
          have HO4 := hide ho
          have HW4 := hide hw
          have HV4 := hide hv
          have HA4 := hide ha
          clear ho hw hv ha HO HW HPd
          go_wp2
          rw [rounds_succ]
          go_wp2_with fail
          refine (HIn.out w4 l2 (HV4.out.perm.trans HPm.out) HW4.out HO4.out (md + 1) 13 (by omega) (by omega) _ _ rfl rfl).mono ?_
          rintro y w5 ⟨rfl, l3, ho, hw, hv, ha⟩
          have HF := hide (show ∃ l', OwT w5 0 tId (slV g 13 cap) l' ∧ w.grownBy w5 (some g) ∧ l'.Perm l ∧ Asc D l' 0 13 from ⟨l3, ho, hw, hv.perm.trans (HV4.out.perm.trans HPm.out), pdq_end HD.out HL1.out HV4.out HA4.out hv ha (.inl ⟨rfl, rfl, rfl, rfl⟩)⟩)
          clear ho hw hv ha HO4 HW4 HV4 HA4 HIn
          go_wp2
          (try simp only [Exit.inBlock, Exit.then])
          refine bodyPost_ret (results_none rfl _ _ _) rfl ?_
          exact ⟨rfl, HF.out⟩
        · have d1 : decide ((md : Int) < (k : Int) + 1) = false := decide_eq_false (by omega)
          go_wp2_with fail
          refine (HPd.out w3 l1 HPm.out HW.out HO.out (md + 1) 13 (by omega) (by omega) (by omega) 4 _ _ rfl rfl).mono ?_
          rintro y w4 ⟨rfl, l2, ho, hw, hv, ha⟩
          have HO4 := hide ho
          have HW4 := hide hw
          have HV4 := hide hv
          have HA4 := hide ha
          clear ho hw hv ha HO HW HPd
          go_wp2
          rw [rounds_succ]
          go_wp2_with fail
          refine (HIn.out w4 l2 (HV4.out.perm.trans HPm.out) HW4.out HO4.out 0 md (by omega) (by omega) _ _ rfl rfl).mono ?_
          rintro y w5 ⟨rfl, l3, ho, hw, hv, ha⟩
          have HF := hide (show ∃ l', OwT w5 0 tId (slV g 13 cap) l' ∧ w.grownBy w5 (some g) ∧ l'.Perm l ∧ Asc D l' 0 13 from ⟨l3, ho, hw, hv.perm.trans (HV4.out.perm.trans HPm.out), pdq_end HD.out HL1.out HV4.out HA4.out hv ha (.inr ⟨rfl, rfl, rfl, rfl⟩)⟩)
          clear ho hw hv ha HO4 HW4 HV4 HA4 HIn
          go_wp2
          (try simp only [Exit.inBlock, Exit.then])
          refine bodyPost_ret (results_none rfl _ _ _) rfl ?_
          exact ⟨rfl, HF.out⟩
  · go_enter Try.func75, Try.ntmps75
    go_wp2
    refine wp_loop_rounds 2 ?_
    rw [rounds_succ]
    go_wp2_with fail
    refine HPv.out.mono ?_
    rintro y w1 ⟨m, h, rfl, hh, hm, ho, hw⟩
    have HM := hide hm
    have HO := hide ho
    have HW := hide hw
    clear hm ho hw HPv
    rcases hh with rfl | rfl
    · go_wp2
      go_quiet (fail)
      obtain ⟨wq, hwq⟩ : ∃ z, z = w1.drewN nq := ⟨_, rfl⟩
      rw [← hwq]
      have HOq := hide (show OwT wq 0 tId (slV g 14 cap) l from by rw [hwq]; exact HO.out.drewN nq)
      have HWq := hide (show w.grownBy wq (some g) from by rw [hwq]; exact ⟨HW.out.os, HW.out.tape, HW.out.output, HW.out.size, HW.out.block⟩)
      clear hwq HO HW
      go_wp2_with fail
      refine (HPt.out wq HWq.out HOq.out m HM.out.mn).mono ?_
      rintro y w3 ⟨md, r3, l1, rfl, hd, hp, ho, hw⟩
      have hmid : 1 ≤ md ∧ md + 2 ≤ 14 := by
        obtain ⟨x, hx, rx⟩ := HM.out.lo
        obtain ⟨y, hy, ry⟩ := HM.out.hi
        exact hd.mid (own_len ho) (hp.mem_iff.2 hx) (hp.mem_iff.2 hy) rx ry
      have HD := hide hd
      have HPm := hide hp
      have HL1 := hide (own_len ho)
      have HO := hide ho
      have HW := hide hw
      clear hd hp ho hw HOq HWq HPt HM
      obtain ⟨k, hk⟩ : ∃ k, md + 1 + k = 14 := ⟨14 - md - 1, by omega⟩
      have e1 : (14 : Int) - (md : Int) = ((k + 1 : Nat) : Int) := by omega
      have e2 : (14 : Int) - ((md : Int) + 1) = (k : Int) := by omega
      have w1' : IntKind.i64.wrap (md : Int) = (md : Int) := wrap_small (by omega)
      have w2' : IntKind.i64.wrap (k : Int) = (k : Int) := wrap_small (by omega)
      have d2 : decide ((k : Int) ≤ 12) = true := decide_eq_true (by omega)
      have d3 : decide ((md : Int) ≤ 12) = true := decide_eq_true (by omega)
      have d4 : k ≤ 12 := by omega
      have d5 : md ≤ 12 := by omega
      have HK := hide hk
      have HMid := hide hmid
      clear hmid
      by_cases hlr : md < k + 1
      · have d1 : decide ((md : Int) < (k : Int) + 1) = true := decide_eq_true (by omega)
        go_wp2_with fail
        refine (HPd.out w3 l1 HPm.out HW.out HO.out 0 md (by omega) (by omega) (by omega) 4 _ _ rfl rfl).mono ?_
        rintro y w4 ⟨rfl, l2, ho, hw, hv, ha⟩
        have HO4 := hide ho
        have HW4 := hide hw
        have HV4 := hide hv
        have HA4 := hide ha
        clear ho hw hv ha HO HW HPd
        go_wp2
        rw [rounds_succ]
        go_wp2_with fail
        refine (HIn.out w4 l2 (HV4.out.perm.trans HPm.out) HW4.out HO4.out (md + 1) 14 (by omega) (by omega) _ _ rfl rfl).mono ?_
        rintro y w5 ⟨rfl, l3, ho, hw, hv, ha⟩
        have HF := hide (show ∃ l', OwT w5 0 tId (slV g 14 cap) l' ∧ w.grownBy w5 (some g) ∧ l'.Perm l ∧ Asc D l' 0 14 from ⟨l3, ho, hw, hv.perm.trans (HV4.out.perm.trans HPm.out), pdq_end HD.out HL1.out HV4.out HA4.out hv ha (.inl ⟨rfl, rfl, rfl, rfl⟩)⟩)
        clear ho hw hv ha HO4 HW4 HV4 HA4 HIn
        go_wp2
        (try simp only [Exit.inBlock, Exit.then])
        refine bodyPost_ret (results_none rfl _ _ _) rfl ?_
        exact ⟨rfl, HF.out⟩
      · have d1 : decide ((md : Int) < (k : Int) + 1) = false := decide_eq_false (by omega)
        go_wp2_with fail
        refine (HPd.out w3 l1 HPm.out HW.out HO.out (md + 1) 14 (by omega) (by omega) (by omega) 4 _ _ rfl rfl).mono ?_
        rintro y w4 ⟨rfl, l2, ho, hw, hv, ha⟩
        have HO4 := hide ho
        have HW4 := hide hw
        have HV4 := hide hv
        have HA4 := hide ha
        clear ho hw hv ha HO HW HPd
        go_wp2
        rw [rounds_succ]
        go_wp2_with fail
        refine (HIn.out w4 l2 (HV4.out.perm.trans HPm.out) HW4.out HO4.out 0 md (by omega) (by omega) _ _ rfl rfl).mono ?_
        rintro y w5 ⟨rfl, l3, ho, hw, hv, ha⟩
        have HF := hide (show ∃ l', OwT w5 0 tId (slV g 14 cap) l' ∧ w.grownBy w5 (some g) ∧ l'.Perm l ∧ Asc D l' 0 14 from ⟨l3, ho, hw, hv.perm.trans (HV4.out.perm.trans HPm.out), pdq_end HD.out HL1.out HV4.out HA4.out hv ha (.inr ⟨rfl, rfl, rfl, rfl⟩)⟩)
        clear ho hw hv ha HO4 HW4 HV4 HA4 HIn
        go_wp2
        (try simp only [Exit.inBlock, Exit.then])
        refine bodyPost_ret (results_none rfl _ _ _) rfl ?_
        exact ⟨rfl, HF.out⟩
    · go_wp2_with fail
      refine (HPa.out w1 HW.out HO.out).mono ?_
      rintro y w2 ⟨r, rfl, hr, ho, hw⟩
      have HR := hide hr
      have HO := hide ho
      have HW := hide hw
      clear hr ho hw HPa
      cases r with
      | true =>
        go_wp2
        (try simp only [Exit.inBlock, Exit.then])
        refine bodyPost_ret (results_none rfl _ _ _) rfl ?_
        exact ⟨rfl, l, HO.out, HW.out, List.Perm.refl _, HR.out (by trivial)⟩
      | false =>
        go_wp2
        go_quiet (fail)
        obtain ⟨wq, hwq⟩ : ∃ z, z = w2.drewN nq := ⟨_, rfl⟩
        rw [← hwq]
        have HOq := hide (show OwT wq 0 tId (slV g 14 cap) l from by rw [hwq]; exact HO.out.drewN nq)
        have HWq := hide (show w.grownBy wq (some g) from by rw [hwq]; exact ⟨HW.out.os, HW.out.tape, HW.out.output, HW.out.size, HW.out.block⟩)
        clear hwq HO HW
        go_wp2_with fail
        refine (HPt.out wq HWq.out HOq.out m HM.out.mn).mono ?_
        rintro y w3 ⟨md, r3, l1, rfl, hd, hp, ho, hw⟩
        have hmid : 1 ≤ md ∧ md + 2 ≤ 14 := by
          obtain ⟨x, hx, rx⟩ := HM.out.lo
          obtain ⟨y, hy, ry⟩ := HM.out.hi
          exact hd.mid (own_len ho) (hp.mem_iff.2 hx) (hp.mem_iff.2 hy) rx ry
        have HD := hide hd
        have HPm := hide hp
        have HL1 := hide (own_len ho)
        have HO := hide ho
        have HW := hide hw
        clear hd hp ho hw HOq HWq HPt HM
        obtain ⟨k, hk⟩ : ∃ k, md + 1 + k = 14 := ⟨14 - md - 1, by omega⟩
        have e1 : (14 : Int) - (md : Int) = ((k + 1 : Nat) : Int) := by omega
        have e2 : (14 : Int) - ((md : Int) + 1) = (k : Int) := by omega
        have w1' : IntKind.i64.wrap (md : Int) = (md : Int) := wrap_small (by omega)
        have w2' : IntKind.i64.wrap (k : Int) = (k : Int) := wrap_small (by omega)
        have d2 : decide ((k : Int) ≤ 12) = true := decide_eq_true (by omega)
        have d3 : decide ((md : Int) ≤ 12) = true := decide_eq_true (by omega)
        have d4 : k ≤ 12 := by omega
        have d5 : md ≤ 12 := by omega
        have HK := hide hk
        have HMid := hide hmid
        clear hmid
        by_cases hlr : md < k + 1
        · have d1 : decide ((md : Int) < (k : Int) + 1) = true := decide_eq_true (by omega)
          go_wp2_with fail
          refine (HPd.out w3 l1 HPm.out HW.out HO.out 0 md (by omega) (by omega) (by omega) 4 _ _ rfl rfl).mono ?_
          rintro y w4 ⟨rfl, l2, ho, hw, hv, ha⟩
          have HO4 := hide ho
          have HW4 := hide hw
          have HV4 := hide hv
          have HA4 := hide ha
          clear ho hw hv ha HO HW HPd
          go_wp2
          rw [rounds_succ]
          go_wp2_with fail
          refine (HIn.out w4 l2 (HV4.out.perm.trans HPm.out) HW4.out HO4.out (md + 1) 14 (by omega) (by omega) _ _ rfl rfl).mono ?_
          rintro y w5 ⟨rfl, l3, ho, hw, hv, ha⟩
          have HF := hide (show ∃ l', OwT w5 0 tId (slV g 14 cap) l' ∧ w.grownBy w5 (some g) ∧ l'.Perm l ∧ Asc D l' 0 14 from ⟨l3, ho, hw, hv.perm.trans (HV4.out.perm.trans HPm.out), pdq_end HD.out HL1.out HV4.out HA4.out hv ha (.inl ⟨rfl, rfl, rfl, rfl⟩)⟩)
          clear ho hw hv ha HO4 HW4 HV4 HA4 HIn
          go_wp2
          (try simp only [Exit.inBlock, Exit.then])
          refine bodyPost_ret (results_none rfl _ _ _) rfl ?_
          exact ⟨rfl, HF.out⟩
        · have d1 : decide ((md : Int) < (k : Int) + 1) = false := decide_eq_false (by omega)
          go_wp2_with fail
          refine (HPd.out w3 l1 HPm.out HW.out HO.out (md + 1) 14 (by omega) (by omega) (by omega) 4 _ _ rfl rfl).mono ?_
          rintro y w4 ⟨rfl, l2, ho, hw, hv, ha⟩
          have HO4 := hide ho
          have HW4 := hide hw
          have HV4 := hide hv
          have HA4 := hide ha
          clear ho hw hv ha HO HW HPd
          go_wp2
          rw [rounds_succ]
          go_wp2_with fail
          refine (HIn.out w4 l2 (HV4.out.perm.trans HPm.out) HW4.out HO4.out 0 md (by omega) (by omega) _ _ rfl rfl).mono ?_
          rintro y w5 ⟨rfl, l3, ho, hw, hv, ha⟩
          have HF := hide (show ∃ l', OwT w5 0 tId (slV g 14 cap) l' ∧ w.grownBy w5 (some g) ∧ l'.Perm l ∧ Asc D l' 0 14 from ⟨l3, ho, hw, hv.perm.trans (HV4.out.perm.trans HPm.out), pdq_end HD.out HL1.out HV4.out HA4.out hv ha (.inr ⟨rfl, rfl, rfl, rfl⟩)⟩)
          clear ho hw hv ha HO4 HW4 HV4 HA4 HIn
          go_wp2
          (try simp only [Exit.inBlock, Exit.then])
          refine bodyPost_ret (results_none rfl _ _ _) rfl ?_
          exact ⟨rfl, HF.out⟩
end Go.Proofs.Ytplmcpdlommmaaa.Oq
