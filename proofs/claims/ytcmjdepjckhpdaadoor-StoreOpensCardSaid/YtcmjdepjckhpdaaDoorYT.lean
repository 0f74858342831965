/-
  The law StoreOpens, over any store that keeps the contract.
-/
import Derived.BigQuiet
import Derived.Test.YtcmjdepjckhpdaaDoorYL
import Derived.Test.YtcmjdepjckhpdaaDoorQZP
namespace Go.Proofs.YtcmjdepjckhpdaaDoor.So
open Go Go.RowKit Kt Kg Wr Lw Sha Dk Dg

theorem opn_once : ∀ (f : Nat) (L bs : List _) (a : Nat) (M : List Bs) (n : Nat), (L.map sha).Nodup → opn f L bs a = (0, M, n) → (M.map sha).Nodup ∧ M.length ≤ L.length + bs.length
  | 0, L, bs, a, M, n, hL, h => by
    rw [opn] at h
    injection h with _ h
    injection h with h _
    subst h
    exact ⟨hL, Nat.le_add_right _ _⟩
  | f + 1, L, bs, a, M, n, hL, h => by
    rw [opn] at h
    split at h
    · injection h with _ h
      injection h with h _
      subst h
      exact ⟨hL, Nat.le_add_right _ _⟩
    · split at h
      · injection h with _ h
        injection h with h _
        subst h
        exact ⟨hL, Nat.le_add_right _ _⟩
      · next e he =>
        injection h with h1 h
        have := rd_bad he
        omega
      · next b k hg =>
        split at h
        · injection h with h1 _
          cases h1
        · next hm =>
          obtain ⟨q1, q2, _⟩ := got_size hg
          have h3 := opn_once f (L ++ [b]) (bs.drop k) (a + k) M n (by
            rw [List.map_append, List.map_cons, List.map_nil]
            refine List.nodup_append.2 ⟨hL, by simp, fun c hc d hd e => hm ?_⟩
            rw [List.mem_singleton.1 hd] at e
            rw [← e]; exact hc) h
          rw [List.length_append, List.length_drop, List.length_cons, List.length_nil] at h3
          exact ⟨h3.1, by omega⟩
theorem op_once {bs : Bs} {M : List Bs} {n : Nat} (h : op [] bs 0 = (0, M, n)) : (M.map sha).Nodup ∧ M.length ≤ bs.length := by
  have := opn_once bs.length [] bs 0 M n (by simp) h
  simpa using this
theorem op_full (bs : Bs) : op [] bs 0 = ((op [] bs 0).1, (op [] bs 0).2.1, (op [] bs 0).2.2) := rfl
set_option maxRecDepth 100000 in
set_option maxHeartbeats 8000000 in
theorem lawOpens_any {In : World → (Nat → Prop) → Nat → Nat → List Bs → Prop} (b : Bs) (A : Option Addr) (c : Nat) (P : Nat → Prop) (w : World) (C : Ct w In) (hT : TabR w) (hs : Sl w P A c b) (hl : b.length ≤ 9223372036854775807) :
    Calls Tryd.prog 4 #[.slice A b.length c] w fun y w' => y = .returned (.bool true) ∧ Below w.heap.size w w' := by
  have HC := hide C
  have HT := hide hT
  have Hs := hide hs.bound
  have Hw := hide (swake_any w C hT)
  have HEm := hide (fun wz => empty_any 1000 (by decide) wz)
  by_cases hbig : 500 < b.length
  · obtain ⟨N, hN⟩ : ∃ N, N = b.length := ⟨_, rfl⟩
    rw [← hN] at hl hbig ⊢
    have d1 := decide_eq_true (show (500 : Int) < (N : Int) by omega)
    clear C hT hs hN
    go_enter Tryd.func4, Tryd.ntmps4
    go_wp2_with fail
    refine Hw.out.mono ?_
    rintro y w1 ⟨rfl, hb1⟩
    have HB1 := hide hb1
    clear hb1
    go_wp2
    go_ret
    exact ⟨rfl, HB1.out⟩
  · have hput : Dk.put (new 1000) b = (⟨b, 1000, -1, false⟩, 0) := by
      unfold new
      rw [put_plain, if_neg (by simp only [List.length_nil]; omega)]
      rfl
    have hrput : rput ⟨[], 1000, false, 0, false⟩ b = (⟨b, 1000, false, 0, false⟩, 0) := by
      unfold rput
      rw [if_neg (by simp), if_neg (by simp only [List.length_nil]; omega), if_neg (by simp)]
      rfl
    have hb500 : b.length ≤ 500 := by omega
    have HB500 := hide hb500
    have HPt := hide hput
    have HRp := hide hrput
    obtain ⟨N, hN⟩ : ∃ N, N = b.length := ⟨_, rfl⟩
    have HN := hide hN
    rw [← hN] at hl hbig ⊢
    have d1 := decide_eq_false (show ¬ (500 : Int) < (N : Int) by omega)
    clear C hT hs hN hput hrput hb500
    go_enter Tryd.func4, Tryd.ntmps4
    go_wp2_with fail
    refine Hw.out.mono ?_
    rintro y w1 ⟨rfl, hb1⟩
    have HB1 := hide hb1
    clear hb1
    go_wp2_with fail
    refine (HEm.out w1).mono ?_
    rintro y w2 ⟨g, h, rfl, hd2, hr2, hg, hgh, hb2⟩
    have HB2 := hide (HB1.out.trans (hb2.mono HB1.out.size))
    have HG := hide (And.intro (Nat.le_trans HB1.out.size hg) hgh)
    have HR2 := hide hr2
    have HSb := hide (Hs.out.move (w' := w2) fun k hk _ => HB2.out.block k hk.2)
    have HAp := hide (put_any hd2 (new_fit (by decide)) b A c _ HSb.out)
    rw [← HN.out, HPt.out] at HAp
    clear hd2 hr2 hg hgh hb2 HB1
    go_wp2_with fail
    refine HAp.out.mono ?_
    rintro y w3 ⟨rfl, Sd, hd3, ho3, hS3⟩
    have HB3 := hide (oth_low ho3 HB2.out fun k hk => by have := HG.out.1; omega)
    have HR3 := hide (HR2.out.oth ho3 fun k h1 h2 => by have := HG.out.2; omega)
    have hlo3 : ∀ k, Sd k → w.heap.size ≤ k := fun k hk => (hS3 k hk).elim (fun e => by rw [e]; exact HG.out.1) fun x => by have := HB2.out.size; omega
    have hap3 : ∀ k, Sd k → k ≠ h := fun k hk e => by
      rcases hS3 k hk with x | x
      · have := HG.out.2; omega
      · have := HR2.out.lt h rfl; omega
    have HD3 := hide hd3
    have HLo3 := hide hlo3
    have HAp3 := hide hap3
    have HSb3 := hide (Hs.out.move (w' := w3) fun k hk _ => HB3.out.block k hk.2)
    have HRA := hide (rput_any HR3.out (show Rt.fit ⟨[], 1000, false, 0, false⟩ from ⟨by decide, by decide, by decide, by decide⟩) b A c _ HSb3.out (fun k hk e => by have := hk.2; have := HG.out; omega) (by have := HB500.out; omega))
    rw [← HN.out, HRp.out] at HRA
    clear hd3 ho3 hS3 hlo3 hap3 HAp HR2 HB2 HSb HR3
    go_wp2_with fail
    refine HRA.out.mono ?_
    rintro y w4 ⟨rfl, T, hr4, ho4, hT4⟩
    have HB4 := hide (oth_low ho4 HB3.out fun k hk => by have := HG.out; omega)
    have hd4 := HD3.out.oth ho4 HAp3.out
    have hap4 : ∀ k, Sd k → ¬ T k := fun k hk ht => by
      rcases hT4 k ht with x | x
      · exact HAp3.out k hk x
      · have := HD3.out.lt k hk; omega
    have hlt4 : ∀ k, T k → w.heap.size ≤ k := fun k hk => by
      rcases hT4 k hk with x | x
      · have := HG.out; omega
      · have := HB3.out.size; omega
    obtain ⟨E, M, n, hop⟩ : ∃ E M n, op [] b 0 = (E, M, n) := ⟨_, _, _, rfl⟩
    have hfit : Dk.St.fit ⟨b, 1000, -1, false⟩ := ⟨by show b.length ≤ 1000; have := HB500.out; omega, by show 1000 ≤ 16777216; omega, by show (-1 : Int) ≤ -1; omega, by show (-1 : Int) ≤ _; omega⟩
    have HOp := hide (HC.out.opened HB4.out hd4 hfit rfl HLo3.out (by show b.length ≤ 4000; have := HB500.out; omega))
    have hop1 : op [] (Dk.St.mk b 1000 (-1) false).k 0 = (E, M, n) := hop
    rw [hop1] at HOp
    have HRO := hide (fun (wz : World) (T' : Nat → Prop) (hz : RtIn wz T' h ⟨b, 1000, false, 0, false⟩) (hb : Below w.heap.size w wz) => ropen_any hz rfl (by show b.length ≤ 4000; have := HB500.out; omega) (tabR_keep HT.out hb))
    have hop2 : op [] (Rt.mk b 1000 false 0 false).k 0 = (E, M, n) := hop
    unfold OpenR at HRO
    simp only [hop2] at HRO
    have HR4 := hide hr4
    have HAp4 := hide hap4
    have HLt4 := hide hlt4
    have HOp2 := hide hop
    have HFit := hide hfit
    clear hr4 ho4 hT4 hd4 hap4 hlt4 hfit hop hop1 hop2 HRA HD3 HB3 HSb3
    go_wp2_with fail
    refine HOp.out.mono ?_
    rintro y w5 (⟨he, rfl, Sd5, hd5, ho5, hS5⟩ | ⟨he, gs, S5, Sd5, rfl, hi5, hS5, hd5, ho5, hSd5, hap5⟩)
    · have he : E ≠ 0 := he
      have HB5 := hide (oth_low ho5 HB4.out HLo3.out)
      have HR5 := hide (HR4.out.oth ho5 fun k h1 h2 => HAp4.out k h2 h1)
      have HD5 := hide hd5
      have HRz := hide (HRO.out w5 T HR5.out HB5.out)
      clear hd5 ho5 hS5 HRO HOp HR4
      go_wp2_with fail
      refine HRz.out.mono ?_
      rintro y W7 (⟨_, rfl, hb6⟩ | ⟨he', _⟩)
      · have HB7 := hide (HB5.out.trans (hb6.mono HB5.out.size))
        have HD7 := HD5.out.below hb6
        have HR7 := HR5.out.below hb6
        have HBy := hide (bytes_call (show DkIn W7.drew Sd5 g ⟨b, 1000, -1, false⟩ from HD7) HFit.out)
        obtain ⟨v0, hrow, hown0, _⟩ := HR7
        obtain ⟨A0, k0, rfl, hs0⟩ := hown0.sl
        have HS0 := hide hs0.bound
        obtain ⟨m, hm⟩ : ∃ m, m = b.length := ⟨_, rfl⟩
        have c0 : W7.cell? ⟨h, 0, none⟩ = some (.slice A0 m k0) := by rw [hm]; exact hrow.cell 0
        have HM := hide hm
        obtain ⟨kk, hkk⟩ : ∃ z, z = b := ⟨_, rfl⟩
        have HS0 : Hid (Sl W7 _ A0 k0 kk) := hide (by rw [hkk]; exact HS0.out)
        have HBy : Hid (Calls Tryd.prog 19 #[.pointer (some ⟨g, 0, none⟩)] W7.drew fun y w' => ∃ v, y = .returned v ∧ Own w' W7.drew.heap.size tU8 v kk ∧ Below W7.drew.heap.size W7.drew w') := hide (by rw [hkk]; exact HBy.out)
        have HM : Hid (m = kk.length) := hide (by rw [hkk]; exact hm)
        have HKl := hide (show kk.length ≤ 9223372036854775807 by rw [hkk]; have := HB500.out; omega)
        have b1 : ((E : Int) != (E : Int)) = false := by simp
        have b2 : ((E : Int) != 0) = true := by rw [bne_iff_ne]; omega
        clear hb6 HD7 hrow hown0 hs0 hm hkk HRz HR5 HD5 HB5 he
        go_wp2
        refine Rg.wp_region_ord (fun w' => w'.cell? ⟨h, 0, none⟩ = some (.slice A0 m k0) ∧ True) [(0, true), (1, true), (2, true), (3, true), (4, true), (5, true), (6, true), (7, true), (8, true), (9, true), (10, true), (11, true), (13, true), (14, true), (15, true), (16, true), (12, false), (17, false), (18, true), (19, true)] (by kernel_rfl) (by kernel_rfl) ?_
        simp only [Rg.pick, List.map_cons, List.map_nil, List.getD_cons_zero, List.getD_cons_succ]
        iterate 4 (refine Rg.ord_quiet (v := ?_) rfl (fun w' hS => ?_) ⟨c0, trivial⟩ ?_; rotate_left; (obtain ⟨s1, _⟩ := hS; go_simp; with_reducible rfl); simp only [Act.put, List.setIfInBounds_toArray, List.set_cons_succ, List.set_cons_zero])
        iterate 5 (refine Rg.ord_guarded (v := ?_) (by rfl) (fun w' hS => ?_) ⟨c0, trivial⟩ ?_; rotate_left; (obtain ⟨s1, _⟩ := hS; go_simp; with_reducible rfl); simp only [Act.put, List.setIfInBounds_toArray, List.set_cons_succ, List.set_cons_zero])
        iterate 2 (refine Rg.ord_quiet (v := ?_) rfl (fun w' hS => ?_) ⟨c0, trivial⟩ ?_; rotate_left; (obtain ⟨s1, _⟩ := hS; go_simp; with_reducible rfl); simp only [Act.put, List.setIfInBounds_toArray, List.set_cons_succ, List.set_cons_zero])
        iterate 5 (refine Rg.ord_guarded (v := ?_) (by rfl) (fun w' hS => ?_) ⟨c0, trivial⟩ ?_; rotate_left; (obtain ⟨s1, _⟩ := hS; go_simp; with_reducible rfl); simp only [Act.put, List.setIfInBounds_toArray, List.set_cons_succ, List.set_cons_zero])
        refine Rg.ord_loud (by rfl) (fun K hK => ?_)
        go_simp
        refine HBy.out.mono ?_
        rintro y w10 ⟨v10, rfl, hown, hb10⟩
        obtain ⟨A1, k1, rfl, hs1⟩ := hown.sl
        have hbd : Below W7.heap.size W7 w10 := (Below.refl _ W7).drew.trans hb10
        have HB10 := hide hbd
        have HCmp := hide (bytes_two kk kk A1 A0 kk.length m k1 k0 _ _ w10 hs1 (HS0.out.move (w' := w10) fun z hz _ => hbd.block z hz.2) rfl HM.out HKl.out)
        rw [decide_eq_true rfl, ← HM.out] at HCmp
        rw [← HM.out]
        have d0 : w10.cell? ⟨h, 0, none⟩ = some (.slice A0 m k0) := (World.cell?_of_block (a := ⟨h, 0, none⟩) (hbd.block h (World.block_lt_of_cell? W7 _ c0))).trans c0
        clear hown hb10 hs1 hbd c0 HBy
        refine hK _ _ (fun _ => ⟨d0, trivial⟩) ?_
        clear hK K
        refine Rg.ord_loud (by rfl) (fun K hK => ?_)
        go_simp
        refine HCmp.out.mono ?_
        rintro y w11 ⟨rfl, hb11⟩
        have e0 : w11.cell? ⟨h, 0, none⟩ = some (.slice A0 m k0) := (World.cell?_of_block (a := ⟨h, 0, none⟩) (hb11.block h (World.block_lt_of_cell? w10 _ d0))).trans d0
        have HB11 := hide (HB10.out.trans (hb11.mono HB10.out.size))
        clear hb11 HCmp d0 HB10
        refine hK _ _ (fun _ => ⟨e0, trivial⟩) ?_
        clear hK K
        iterate 1 (refine Rg.ord_guarded (v := ?_) (by rfl) (fun w' hS => ?_) ⟨e0, trivial⟩ ?_; rotate_left; (obtain ⟨s1, _⟩ := hS; go_simp; with_reducible rfl); simp only [Act.put, List.setIfInBounds_toArray, List.set_cons_succ, List.set_cons_zero])
        iterate 1 (refine Rg.ord_quiet (v := ?_) rfl (fun w' hS => ?_) ⟨e0, trivial⟩ ?_; rotate_left; (obtain ⟨s1, _⟩ := hS; go_simp; with_reducible rfl); simp only [Act.put, List.setIfInBounds_toArray, List.set_cons_succ, List.set_cons_zero])
        refine Rg.ord_nil ?_
        clear e0
        have HB12 := hide (HB7.out.trans (HB11.out.mono HB7.out.size))
        go_wp2
        go_ret
        exact ⟨rfl, HB12.out⟩
      · exact absurd he' he
    · have he : E = 0 := he
      subst he
      have HB5 := hide (oth_low ho5 HB4.out HLo3.out)
      have HR5 := hide (HR4.out.oth ho5 fun k h1 h2 => HAp4.out k h2 h1)
      have HD5 := hide hd5
      have HI5 := hide hi5
      have HRz := hide (HRO.out w5 T HR5.out HB5.out)
      have HLo5 := hide (And.intro hS5 (show ∀ k, Sd5 k → (Sd k ∨ w4.heap.size ≤ k) from hSd5))
      have HLt5 := hide (show ∀ k, S5 k ∨ Sd5 k → ¬ T k from fun k hk ht => by
        have h1 := HR4.out.lt k ht
        rcases hk with hk | hk
        · have := hS5 k hk; omega
        · rcases hSd5 k hk with x | x
          · exact HAp4.out k x ht
          · omega)
      clear hd5 ho5 hS5 hi5 hSd5 hap5 HRO HOp HR4
      go_wp2_with fail
      refine HRz.out.mono ?_
      rintro y W7 (⟨he', _⟩ | ⟨_, rs, S7, T7, rfl, hi7, hS7, hr7, ho7, hT7, hap7⟩)
      · exact absurd rfl he'
      · have HB7 := hide (oth_low ho7 HB5.out HLt4.out)
        have HI7 := hide (HC.out.oth HI5.out ho7 fun k hk => HLt5.out k (.inl hk))
        have HD7 := HD5.out.oth ho7 fun k hk => HLt5.out k (.inr hk)
        have HRs := hide hi7
        have hkf : Dk.St.fit ⟨b.take n, 1000, -1, false⟩ := ⟨by show (b.take n).length ≤ 1000; rw [List.length_take]; have := HB500.out; omega, by show 1000 ≤ 16777216; omega, by show (-1 : Int) ≤ -1; omega, by show (-1 : Int) ≤ _; omega⟩
        have HBy := hide (bytes_call (show DkIn W7.drew Sd5 g ⟨b.take n, 1000, -1, false⟩ from HD7) hkf)
        obtain ⟨v0, hrow, hown0, _⟩ := hr7
        obtain ⟨A0, k0, rfl, hs0⟩ := hown0.sl
        have HS0 := hide hs0.bound
        obtain ⟨kk, hkk⟩ : ∃ z, z = b.take n := ⟨_, rfl⟩
        obtain ⟨m, hm⟩ : ∃ m, m = kk.length := ⟨_, rfl⟩
        have c0 : W7.cell? ⟨h, 0, none⟩ = some (.slice A0 m k0) := by rw [hm, hkk]; exact hrow.cell 0
        have HM := hide hm
        have HS0 : Hid (Sl W7 _ A0 k0 kk) := hide (by rw [hkk]; exact HS0.out)
        have HBy : Hid (Calls Tryd.prog 19 #[.pointer (some ⟨g, 0, none⟩)] W7.drew fun y w' => ∃ v, y = .returned v ∧ Own w' W7.drew.heap.size tU8 v kk ∧ Below W7.drew.heap.size W7.drew w') := hide (by rw [hkk]; exact HBy.out)
        have HKl := hide (show kk.length ≤ 9223372036854775807 by rw [hkk, List.length_take]; have := HB500.out; omega)
        have hon := op_once HOp2.out
        have HOn := hide (show M.length ≤ 1000 ∧ (M.map sha).Nodup from ⟨by have := hon.2; have := HB500.out; omega, hon.1⟩)
        have b1 : (((0 : Nat) : Int) != ((0 : Nat) : Int)) = false := by simp
        have b2 : (((0 : Nat) : Int) != 0) = false := rfl
        clear HD7 hrow hown0 hs0 hm hkk hkf HRz HR5 HD5 HB5 hon hS7 ho7 hT7 hap7 hi7 HI5
        go_wp2
        refine Rg.wp_region_ord (fun w' => w'.cell? ⟨h, 0, none⟩ = some (.slice A0 m k0) ∧ True) [(0, true), (1, true), (2, true), (3, true), (4, true), (5, true), (6, true), (7, true), (8, true), (9, true), (10, true), (11, true), (13, true), (14, true), (15, true), (16, true), (12, false), (17, false), (18, true), (19, true)] (by kernel_rfl) (by kernel_rfl) ?_
        simp only [Rg.pick, List.map_cons, List.map_nil, List.getD_cons_zero, List.getD_cons_succ]
        iterate 4 (refine Rg.ord_quiet (v := ?_) rfl (fun w' hS => ?_) ⟨c0, trivial⟩ ?_; rotate_left; (obtain ⟨s1, _⟩ := hS; go_simp; with_reducible rfl); simp only [Act.put, List.setIfInBounds_toArray, List.set_cons_succ, List.set_cons_zero])
        iterate 5 (refine Rg.ord_guarded (v := ?_) (by rfl) (fun w' hS => ?_) ⟨c0, trivial⟩ ?_; rotate_left; (obtain ⟨s1, _⟩ := hS; go_simp; with_reducible rfl); simp only [Act.put, List.setIfInBounds_toArray, List.set_cons_succ, List.set_cons_zero])
        iterate 2 (refine Rg.ord_quiet (v := ?_) rfl (fun w' hS => ?_) ⟨c0, trivial⟩ ?_; rotate_left; (obtain ⟨s1, _⟩ := hS; go_simp; with_reducible rfl); simp only [Act.put, List.setIfInBounds_toArray, List.set_cons_succ, List.set_cons_zero])
        iterate 5 (refine Rg.ord_guarded (v := ?_) (by rfl) (fun w' hS => ?_) ⟨c0, trivial⟩ ?_; rotate_left; (obtain ⟨s1, _⟩ := hS; go_simp; with_reducible rfl); simp only [Act.put, List.setIfInBounds_toArray, List.set_cons_succ, List.set_cons_zero])
        refine Rg.ord_loud (by rfl) (fun K hK => ?_)
        go_simp
        refine HBy.out.mono ?_
        rintro y w10 ⟨v10, rfl, hown, hb10⟩
        obtain ⟨A1, k1, rfl, hs1⟩ := hown.sl
        have hbd : Below W7.heap.size W7 w10 := (Below.refl _ W7).drew.trans hb10
        have HB10 := hide hbd
        have HCmp := hide (bytes_two kk kk A1 A0 kk.length m k1 k0 _ _ w10 hs1 (HS0.out.move (w' := w10) fun z hz _ => hbd.block z hz.2) rfl HM.out HKl.out)
        rw [decide_eq_true rfl, ← HM.out] at HCmp
        rw [← HM.out]
        have d0 : w10.cell? ⟨h, 0, none⟩ = some (.slice A0 m k0) := (World.cell?_of_block (a := ⟨h, 0, none⟩) (hbd.block h (World.block_lt_of_cell? W7 _ c0))).trans c0
        clear hown hb10 hs1 hbd c0 HBy
        refine hK _ _ (fun _ => ⟨d0, trivial⟩) ?_
        clear hK K
        refine Rg.ord_loud (by rfl) (fun K hK => ?_)
        go_simp
        refine HCmp.out.mono ?_
        rintro y w11 ⟨rfl, hb11⟩
        have e0 : w11.cell? ⟨h, 0, none⟩ = some (.slice A0 m k0) := (World.cell?_of_block (a := ⟨h, 0, none⟩) (hb11.block h (World.block_lt_of_cell? w10 _ d0))).trans d0
        have HB11 := hide (HB10.out.trans (hb11.mono HB10.out.size))
        clear hb11 HCmp d0 HB10
        refine hK _ _ (fun _ => ⟨e0, trivial⟩) ?_
        clear hK K
        iterate 1 (refine Rg.ord_guarded (v := ?_) (by rfl) (fun w' hS => ?_) ⟨e0, trivial⟩ ?_; rotate_left; (obtain ⟨s1, _⟩ := hS; go_simp; with_reducible rfl); simp only [Act.put, List.setIfInBounds_toArray, List.set_cons_succ, List.set_cons_zero])
        iterate 1 (refine Rg.ord_quiet (v := ?_) rfl (fun w' hS => ?_) ⟨e0, trivial⟩ ?_; rotate_left; (obtain ⟨s1, _⟩ := hS; go_simp; with_reducible rfl); simp only [Act.put, List.setIfInBounds_toArray, List.set_cons_succ, List.set_cons_zero])
        refine Rg.ord_nil ?_
        clear e0
        have HB12 := hide (HB7.out.trans (HB11.out.mono HB7.out.size))
        have HSm := hide (same_any HC.out HB12.out (HC.out.below HI7.out HB11.out) (HRs.out.below HB11.out) HOn.out.1 HOn.out.2)
        clear HRs HI7
        go_wp2_with fail
        refine HSm.out.mono ?_
        rintro y w12 ⟨rfl, hb12⟩
        have HB13 := hide (HB12.out.trans (hb12.mono HB12.out.size))
        clear hb12 HSm
        go_wp2
        go_ret
        exact ⟨rfl, HB13.out⟩
end Go.Proofs.YtcmjdepjckhpdaaDoor.So
