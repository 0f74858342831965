/-
  The law StoreOwn, over any store that keeps the contract.
-/
import Derived.Test.YtcmjdepjckhpdaaDoorYL
namespace Go.Proofs.YtcmjdepjckhpdaaDoor.So
open Go Go.RowKit Kt Kg Wr Lw Sha Dk Dg

set_option maxRecDepth 100000 in
set_option maxHeartbeats 8000000 in
theorem lawOwn_any {In : World → (Nat → Prop) → Nat → Nat → List Bs → Prop} (x : Bs) (p v : Nat) (w : World) (C : Ct w In) (hT : TabR w) (hl : x.length ≤ 9223372036854775807) (hp : p < 256) :
    Calls Tryd.prog 8 #[.string ⟨x.toArray⟩, .int .u8 (p : Int), .int .u8 (v : Int)] w fun y w' => y = .returned (.bool true) ∧ Below w.heap.size w w' := by
  have HC := hide C
  have HT := hide hT
  have Hw := hide (swake_any w C hT)
  have hsz : ByteArray.size ⟨x.toArray⟩ = x.length := by simp [ByteArray.size]
  have HEm := hide (fun wz => empty_any 1000 (by decide) wz)
  by_cases hno : x.length = 0 ∨ 60 < x.length
  · obtain ⟨T, hTx⟩ : ∃ T, T = ByteArray.mk x.toArray := ⟨_, rfl⟩
    rw [← hTx] at hsz ⊢
    have d1 : decide ((T.size : Int) = 0) = decide (x.length = 0) := by rw [decide_eq_decide]; omega
    have HNo := hide (show (T.size = 0 ∨ 60 < T.size) from by rw [hsz]; exact hno)
    clear C hT hsz hTx hno hl d1
    rcases HNo.out with h0 | h0
    · have d1 : ((T.size : Int) == 0) = true := by rw [beq_iff_eq]; omega
      clear h0
      go_enter Tryd.func8, Tryd.ntmps8
      go_wp2_with fail
      refine Hw.out.mono ?_
      rintro y w1 ⟨rfl, hb1⟩
      have HB1 := hide hb1
      clear hb1
      go_wp2
      go_ret
      exact ⟨rfl, HB1.out⟩
    · have d1 : ((T.size : Int) == 0) = false := by rw [beq_eq_false_iff_ne]; omega
      have d2 : decide ((60 : Int) < (T.size : Int)) = true := decide_eq_true (by omega)
      have d3 : 60 < T.size := h0
      have d4 : ¬ T.size = 0 := by omega
      clear h0
      go_enter Tryd.func8, Tryd.ntmps8
      go_wp2_with fail
      refine Hw.out.mono ?_
      rintro y w1 ⟨rfl, hb1⟩
      have HB1 := hide hb1
      clear hb1
      go_wp2
      go_ret
      exact ⟨rfl, HB1.out⟩
  · obtain ⟨n, hn⟩ : ∃ z, z = x.length := ⟨_, rfl⟩
    have hn1 : 1 ≤ n ∧ n ≤ 60 := by omega
    obtain ⟨i, hi⟩ : ∃ z, z = p % n := ⟨_, rfl⟩
    have hin : i < n := by rw [hi]; exact Nat.mod_lt _ (by omega)
    have hrm : (p : Int).tmod (n : Int) = (i : Int) := by rw [hi, Int.ofNat_tmod]
    have hw1 : IntKind.i64.wrap (p : Int) = (p : Int) := IntWalk.i64_in _ (by omega)
    have hw2 : IntKind.i64.wrap (i : Int) = (i : Int) := IntWalk.i64_in _ (by omega)
    have e1 : ((n : Int) == 0) = false := by rw [beq_eq_false_iff_ne]; omega
    have e2 : decide ((60 : Int) < (n : Int)) = false := decide_eq_false (by omega)
    have e3 : ¬ n = 0 := by omega
    have e4 : ¬ 60 < n := by omega
    rw [← hn] at hsz
    have hpf := put_fits (x := x) (n := 1000) (by omega) (by decide)
    have HPf := hide hpf
    have HPl := hide (show (So.put ⟨new 1000, []⟩ x).1.L.map sha = [sha x] by rw [hpf.1]; rfl)
    have hgot : got [x] (sha x) = some x := got_is (L := [x]) (i := 0) (by simp) rfl
    have HGot := hide hgot
    have HN := hide hn
    have Hn1 := hide hn1
    have HI := hide hin
    clear C hT hno hl hpf hgot hn hi hin hn1
    go_enter Tryd.func8, Tryd.ntmps8
    go_wp2_with fail
    refine Hw.out.mono ?_
    rintro y w1 ⟨rfl, hb1⟩
    have HB1 := hide hb1
    clear hb1
    go_wp2_with fail
    refine (HEm.out w1).mono ?_
    rintro y w2 ⟨g, h, rfl, hd2, _, hg, hgh, hb2⟩
    have HB2 := hide (HB1.out.trans (hb2.mono HB1.out.size))
    have HG := hide (show w.heap.size ≤ g ∧ g < w2.heap.size from ⟨Nat.le_trans HB1.out.size hg, hd2.lt g rfl⟩)
    have HOp := hide (HC.out.born HB2.out hd2 (by decide) (fun k hk => by rw [hk]; exact HG.out.1))
    clear hd2 hg hgh hb2 HB1
    go_wp2_with fail
    refine HOp.out.mono ?_
    rintro y w3 ⟨gs, rfl, hp3, hb3, ho3⟩
    have HB3 := hide hb3
    obtain ⟨cap, ob, hcv, hsl, hfr⟩ := conv_row x w3
    obtain ⟨q, hq⟩ : ∃ z, z = w3.heap.size := ⟨_, rfl⟩
    obtain ⟨wa, hwa⟩ : ∃ z, z = (w3.alloc ob).drew := ⟨_, rfl⟩
    have hba : Below w3.heap.size w3 wa := by rw [hwa]; exact ((Below.refl _ w3).alloc (Nat.le_refl _) _).drew
    have hqa : q < wa.heap.size := by rw [hwa, hq]; show w3.heap.size < (w3.alloc ob).heap.size; rw [World.size_alloc]; exact Nat.lt_succ_self _
    have hsl : Sl wa (fun z => z = q) (some ⟨q, 0, none⟩) cap x := by rw [hwa, hq]; exact hsl
    have hfr : ∀ j, j < n → wa.frozen? ⟨q, j, none⟩ = false := fun j hj => by rw [hwa, hq]; exact hfr j (by rw [← HN.out]; exact hj)
    have HBa := hide (HB3.out.trans (hba.mono HB3.out.size))
    have hpa := hp3.below HC.out hba
    have HPut := hide (hpa.put HC.out HBa.out (new_fit (by decide)) x _ _ _ hsl (fun k hk hu => by have := hu.1; omega) (by have := HN.out; have := Hn1.out; omega) (by simp))
    rw [HPf.out.2, ← HN.out] at HPut
    rw [← HN.out, ← hq] at hcv
    have HSl := hide hsl
    have HFr := hide hfr
    have HQa := hide hqa
    have HWa := hide hwa
    have HQ := hide hq
    clear hp3 hb3 ho3 hsl hfr hwa hq hba hqa hpa HOp HB2
    go_wp2_with fail
    rw [← HWa.out]
    refine HPut.out.mono ?_
    clear hcv HPut
    rintro y w4 ⟨rfl, hp4, ho4, hb4⟩
    have HB4 := hide hb4
    have HP4 := hide (hp4.imp (V := fun k => k < w4.heap.size ∧ k ≠ q) HC.out fun k hk hu => ⟨hk, fun e => by
      rcases hu with hu | hu
      · have := hu.1; have := HQ.out; omega
      · have := HQa.out; omega⟩)
    have hnq : ∀ k, k = q → ¬ (k < w3.heap.size ∧ (k = g ∨ w2.heap.size ≤ k)) := fun k e hu => by have := hu.1; have := HQ.out; omega
    have HSl4 := hide (HSl.out.move (w' := w4) fun k hk hlt => ho4.block k hlt (hnq k hk))
    obtain ⟨v0, hc0⟩ := sl_zero HSl4.out (i := i) (by rw [← HN.out]; exact HI.out)
    have hf0 : w4.frozen? ⟨q, i, none⟩ = false := (World.frozen?_of_block (w := wa) (a := ⟨q, i, none⟩) (ho4.block q HQa.out (hnq q rfl))).trans (HFr.out i HI.out)
    obtain ⟨w5, hw5⟩ : ∃ z, z = w4.setCell ⟨q, i, none⟩ (.int .u8 (v : Int)) := ⟨_, rfl⟩
    have ho5 : Oth (fun k => k = q) w4 w5 := by rw [hw5]; exact (Oth.refl (fun k => k = q) w4).put (.inl rfl) _
    have HP5 := hide (HP4.out.oth HC.out ho5 fun k _ h1 h2 => h1.2 h2)
    have HB5 := hide (oth_low ho5 HB4.out fun k hk => by have := HQ.out; have := HB3.out.size; omega)
    have HZ5 := hide (show w5.heap.size = w4.heap.size by rw [hw5]; simp [World.setCell])
    have hl1 : (So.put ⟨new 1000, []⟩ x).1.L.length ≤ 1000 := by rw [HPf.out.1]; simp
    have HGet := hide (HP5.out.get HC.out HB5.out hl1 (sha x))
    rw [HPf.out.1, HGot.out] at HGet
    simp only [Option.isSome_some, Option.getD_some] at HGet
    have HL1 := hide hl1
    have HW5 := hide hw5
    have hil := HI.out
    clear hp4 ho4 hb4 hnq ho5 hw5 hl1 HSl HFr HQa HWa HBa HP4
    obtain ⟨I, hI⟩ : ∃ z, z = sha x := ⟨_, rfl⟩
    rw [← hI] at HGet ⊢
    have HId := hide hI
    clear hI
    go_wp2_with fail
    rw [← HW5.out]
    refine HGet.out.mono ?_
    clear hc0 hf0
    rintro y w6 ⟨v6, rfl, hown6, hb6⟩
    obtain ⟨g6, c6, rfl, hg6, hg6', hf6, hs6⟩ := own_at hown6 (by rw [← HN.out]; omega)
    rw [← HN.out]
    have HB6 := hide (HB5.out.trans (hb6.mono HB5.out.size))
    have HP6 := hide (HP5.out.below HC.out hb6)
    have hcv6 := sl_text (show Sl w6 _ _ _ x from hs6) HN.out
    have hxx : (x == x) = true := by simp
    obtain ⟨v1, hc1⟩ := sl_zero hs6 (i := i) (by rw [← HN.out]; exact HI.out)
    have hf1 := hf6 i
    obtain ⟨w7, hw7⟩ : ∃ z, z = w6.setCell ⟨g6, i, none⟩ (.int .u8 (v : Int)) := ⟨_, rfl⟩
    have ho7 : Oth (fun k => k = g6) w6 w7 := by rw [hw7]; exact (Oth.refl (fun k => k = g6) w6).put (.inl rfl) _
    have HP7 := hide (HP6.out.oth HC.out ho7 fun k _ h1 h2 => by have := h1.1; have := HZ5.out; omega)
    have HB7 := hide (oth_low ho7 HB6.out fun k hk => by have := HB5.out.size; omega)
    have HGet := hide (HP7.out.get HC.out HB7.out HL1.out (sha x))
    rw [HPf.out.1, HGot.out, ← HId.out] at HGet
    simp only [Option.isSome_some, Option.getD_some] at HGet
    have HW7 := hide hw7
    have HZ7 := hide (show w7.heap.size = w6.heap.size by rw [hw7]; simp [World.setCell])
    have HZ6 := hide (show w5.heap.size ≤ w6.heap.size from hb6.size)
    clear hown6 hb6 hf6 hs6 ho7 hw7 HP6 HP5 HB6 HW5 HPf
    go_wp2_with fail
    rw [← HW7.out]
    refine HGet.out.mono ?_
    clear hc1 hf1 hcv6
    rintro y w8 ⟨v8, rfl, hown8, hb8⟩
    obtain ⟨g8, c8, rfl, hg8, hg8', _, hs8⟩ := own_at hown8 (by rw [← HN.out]; omega)
    rw [← HN.out]
    have HB8 := hide (HB7.out.trans (hb8.mono HB7.out.size))
    have HP8 := hide (HP7.out.below HC.out hb8)
    have HIds := hide (HP8.out.ids HC.out HB8.out HL1.out)
    have HS8 := hide hs8
    have HG8 := hide (show w7.heap.size ≤ g8 ∧ g8 < w8.heap.size from ⟨hg8, hg8'⟩)
    have HZ8 := hide (show w7.heap.size ≤ w8.heap.size from hb8.size)
    clear hown8 hb8 hg8 hg8' hs8 HP7 HB7 HW7
    go_wp2_with fail
    refine HIds.out.mono ?_
    rintro y w9 ⟨v9, rfl, hown9, hb9⟩
    rw [HPl.out, ← HId.out] at hown9
    obtain ⟨g9, c9, rfl, hg9, hg9', hf9, hc9⟩ := owt_at hown9 (by simp)
    have hcell := hc9 0 I rfl
    have hfree := hf9 0
    have HB9 := hide (HB8.out.trans (hb9.mono HB8.out.size))
    have HP9 := hide (HP8.out.below HC.out hb9)
    obtain ⟨w10, hw10⟩ : ∃ z, z = w9.setCell ⟨g9, 0, none⟩ (.string ⟨#[63]⟩) := ⟨_, rfl⟩
    have ho10 : Oth (fun k => k = g9) w9 w10 := by rw [hw10]; exact (Oth.refl (fun k => k = g9) w9).put (.inl rfl) _
    have HP10 := hide (HP9.out.oth HC.out ho10 fun k _ h1 h2 => by have := h1.1; have := HZ5.out; have := HZ6.out; have := HZ7.out; have := HZ8.out; omega)
    have HB10 := hide (oth_low ho10 HB9.out fun k hk => by have := HB8.out.size; omega)
    have hs10 : Sl w10 (fun b => b = g8) (some ⟨g8, 0, none⟩) c8 x := (HS8.out.move (w' := w9) fun k _ hlt => hb9.block k hlt).move fun k hk hlt => ho10.block k hlt fun e => by have := HG8.out.2; omega
    have hcv10 := sl_text (show Sl w10 _ _ _ x from hs10) HN.out
    rw [hw10] at hcv10
    have HIds2 := hide (HP10.out.ids HC.out HB10.out HL1.out)
    rw [HPl.out, ← HId.out] at HIds2
    have HW10 := hide hw10
    have hl1 : (([I] : List Bs).length : Int) = 1 := rfl
    clear hown9 hb9 hf9 hc9 ho10 hw10 hs10 HP8 HP9 HB8 HB9 HIds
    go_wp2_with fail
    rw [← HW10.out]
    clear hcell hfree hcv10
    refine HIds2.out.mono ?_
    rintro y w11 ⟨v11, rfl, hown11, hb11⟩
    obtain ⟨A11, c11, rfl, hv11⟩ := hown11.vs
    have HB11 := hide (HB10.out.trans (hb11.mono HB10.out.size))
    obtain ⟨w12, hw12⟩ : ∃ z, z = w11.alloc (.cells #[.string ⟨I.toArray⟩] tId) := ⟨_, rfl⟩
    have hb12 : Below w11.heap.size w11 w12 := by rw [hw12]; exact (Below.refl _ w11).alloc (Nat.le_refl _) _
    have hv12 : Vs w12 _ A11 c11 (texts [I]) := vs_keep (vs_low hv11) hb12
    have hone : Vs w12 (fun _ => True) (some ⟨w11.heap.size, 0, none⟩) 1 (texts [I]) := by rw [hw12]; exact Vs.one w11 tId I
    have HIa := hide (ids_any [I] [I] A11 (some ⟨w11.heap.size, 0, none⟩) c11 1 _ _ w12 hv12 hone (by simp))
    rw [decide_eq_true rfl] at HIa
    simp only [List.length_cons, List.length_nil, Nat.zero_add] at HIa
    have HB12 := hide (HB11.out.trans (hb12.mono HB11.out.size))
    have HW12 := hide hw12
    clear hown11 hb11 hv11 hw12 hb12 hv12 hone HIds2
    go_wp2_with fail
    rw [← HW12.out]
    refine HIa.out.mono ?_
    rintro y w13 ⟨rfl, hb13⟩
    have HB13 := hide (HB12.out.trans (hb13.mono HB12.out.size))
    clear hb13 HIa
    go_wp2
    go_ret
    exact ⟨rfl, HB13.out⟩
end Go.Proofs.YtcmjdepjckhpdaaDoor.So
