/-
  The law StoreGoesOn, over any store that keeps the contract.
-/
import Derived.Test.YtcmjdepjckhpdabDoorQRegD
import Derived.Test.YtcmjdepjckhpdabDoorQYL
namespace Go.Proofs.YtcmjdepjckhpdabDoor.So
open Go Go.RowKit Kt Kg Wr Lw Sha Dk Dg

theorem sls_low {w : World} {P : Nat → Prop} {A : Option Addr} {c : Nat} {l : List Bool} (h : Vs w P A c (bools l)) : Vs w (fun b => b < w.heap.size) A c (bools l) := by
  refine ⟨h.1, fun h0 => ?_⟩
  obtain ⟨b, o, e, _, hc⟩ := h.2 h0
  refine ⟨b, o, e, ?_, hc⟩
  obtain ⟨v, hv⟩ : ∃ v, (bools l)[0]? = some v := ⟨_, List.getElem?_eq_getElem h0⟩
  exact World.block_lt_of_cell? w ⟨b, o + 0, none⟩ (hc 0 v hv)
set_option maxRecDepth 100000 in
set_option maxHeartbeats 8000000 in
theorem lawGoesOn_any {In : World → (Nat → Prop) → Nat → Nat → List Bs → Prop} (room : Nat) (l : List Bs) (bl : List Bool) (A A1 : Option Addr) (c c1 : Nat) (P P1 : Nat → Prop) (w : World) (C : Ct w In) (hT : TabR w) (hs : Vs w P A c (texts l)) (hs1 : Vs w P1 A1 c1 (bools bl)) (hl : l.length ≤ 9223372036854775807) :
    Calls Tryd.prog 3 #[.slice A l.length c, .slice A1 bl.length c1, .int .u16 (room : Int)] w fun y w' => y = .returned (.bool true) ∧ Below w.heap.size w w' := by
  have HC := hide C
  have Hs := hide (vs_low hs)
  have Hs1 := hide (sls_low hs1)
  have Hw := hide (swake_any w C hT)
  have Hl := hide hl
  obtain ⟨N, hN⟩ : ∃ N, N = l.length := ⟨_, rfl⟩
  have HN := hide hN
  obtain ⟨N1, hN1⟩ : ∃ N, N = bl.length := ⟨_, rfl⟩
  have HN1 := hide hN1
  rw [← hN] at hl ⊢
  rw [← hN1]
  clear C hT hs hs1 hN hN1
  have hrm : (room : Int).tmod 1001 = ((room % 1001 : Nat) : Int) := by rw [Int.ofNat_tmod]; rfl
  obtain ⟨n, hn⟩ : ∃ n, n = room % 1001 := ⟨_, rfl⟩
  have hn2 : n ≤ 1000 := by omega
  rw [← hn] at hrm
  have hw1 : IntKind.u16.wrap (n : Int) = (n : Int) := by rw [IntKind.wrap_u16]; omega
  have hw2 : IntKind.i64.wrap (n : Int) = (n : Int) := IntWalk.i64_in _ (by omega)
  have Hn2 := hide hn2
  clear hn hn2
  go_enter Tryd.func3, Tryd.ntmps3
  go_wp2_with fail
  refine Hw.out.mono ?_
  rintro y w1 ⟨rfl, hb1⟩
  have HB1 := hide hb1
  have HFew := hide (fewT_any l A c _ w1 (vs_keep Hs.out hb1) Hl.out)
  rw [← HN.out] at HFew
  clear hb1 Hw
  go_wp2_with fail
  refine HFew.out.mono ?_
  rintro y w2 ⟨rfl, hb2⟩
  have HB2 := hide (HB1.out.trans (hb2.mono HB1.out.size))
  clear hb2 HFew HB1
  cases hfe : fewT l with
  | false =>
    go_wp2
    go_ret
    exact ⟨rfl, HB2.out⟩
  | true =>
    have HFe := hide (fewT_spec hfe)
    clear hfe
    go_wp2_with fail
    refine (empty_any n (by have := Hn2.out; omega) w2).mono ?_
    rintro y w3 ⟨g, h, rfl, hd3, _, hg, _, hb3⟩
    have HB3 := hide (HB2.out.trans (hb3.mono HB2.out.size))
    have HD3 := hide hd3
    have HG := hide (Nat.le_trans HB2.out.size hg)
    clear hd3 hg hb3 HB2
    go_wp2_with fail
    refine (empty_any n (by have := Hn2.out; omega) w3).mono ?_
    rintro y w4 ⟨t, h2, rfl, hd4, _, ht, _, hb4⟩
    have HB4 := hide (HB3.out.trans (hb4.mono HB3.out.size))
    have HD4 := hide hd4
    have hgl : g < w3.heap.size := HD3.out.lt g rfl
    have HNe := hide (show g < w4.heap.size ∧ t < w4.heap.size ∧ g ≠ t from ⟨Nat.lt_of_lt_of_le hgl hb4.size, hd4.lt t rfl, by omega⟩)
    have HT4 := hide (Nat.le_trans HB3.out.size ht)
    have HOp := hide (HC.out.born HB4.out (HD3.out.below hb4) (by have := Hn2.out; omega) (fun k hk => by rw [hk]; exact HG.out))
    clear hd4 ht hb4 hgl HB3 HD3 hrm hw1 hw2
    go_wp2_with fail
    refine HOp.out.mono ?_
    rintro y w5 ⟨gs, rfl, hp5, hb5, ho5⟩
    have HP5 := hide hp5
    have HSz5 := hide ho5.size
    have HOp2 := hide (HC.out.born hb5 (HD4.out.oth ho5 fun k h1 h2 => HNe.out.2.2 (h2.symm.trans h1)) (by have := Hn2.out; omega) (fun k hk => by rw [hk]; exact HT4.out))
    clear hp5 hb5 ho5 HOp HD4 HB4
    go_wp2_with fail
    refine HOp2.out.mono ?_
    rintro y w6 ⟨ts, rfl, hp6, hb6, ho6⟩
    have HK6 := hide (GO.start HC.out HNe.out.1 HNe.out.2.1 HNe.out.2.2 HP5.out hp6 ho6 HSz5.out hb6)
    have HF6 := hide (show GoF ⟨new n, []⟩ 0 from ⟨Good.new (new_fit (by have := Hn2.out; omega)) rfl, ⟨rfl, rfl⟩, Nat.le_refl _, Nat.le_refl _⟩)
    clear hp6 hb6 ho6 HOp2 HP5 HSz5
    go_wp2
    go_loopw [15, 16, 17] (fun v f i wr => ∃ (k ts : Nat) (x : Ss), v = pt ts ∧ f = .int .i64 0 ∧ i = .int .i64 k ∧ k ≤ N ∧ Hid (GoF x k) ∧ Hid (GO In w wr gs g x ts t x)) (fun _ _ i _ => N - (intOf i).toNat)
    case atStart => exact ⟨0, ts, _, rfl, rfl, rfl, Nat.zero_le _, by show Hid _; exact HF6, by show Hid _; exact HK6⟩
    case round =>
      obtain ⟨k, ts, x, rfl, rfl, rfl, hk, HF, HK⟩ := hrel
      clear HF6 HK6
      by_cases hlt : k < N
      · obtain ⟨b, hx⟩ : ∃ b, l[k]? = some b := ⟨_, List.getElem?_eq_getElem (by have := HN.out; omega)⟩
        have hb60 : b.length ≤ 60 := HFe.out.1 b (List.mem_of_getElem? hx)
        obtain ⟨bb, oo, rfl, hpb, cx⟩ := vs_at Hs.out hx
        have hlK : x.L.length ≤ 1000 := by have := HF.out.few; have := HFe.out.2; have := HN.out; omega
        have Hb60 := hide hb60
        have HX := hide (show ∀ wz : World, Below w.heap.size w wz → wz.cell? ⟨bb, oo + k, none⟩ = some (.string ⟨b.toArray⟩) from fun wz hz => (World.cell?_of_block (a := ⟨bb, oo + k, none⟩) (hz.block bb hpb)).trans cx)
        have HF6 := hide (HF.out.put hb60)
        have HFit := hide HF.out.good.fit
        have HLk := hide hlK
        obtain ⟨cap, ob, hcv, hsl⟩ := conv_str b wr
        obtain ⟨q, hq⟩ : ∃ z, z = wr.heap.size := ⟨_, rfl⟩
        obtain ⟨wa, hwa⟩ : ∃ z, z = (wr.alloc ob).drew := ⟨_, rfl⟩
        have hba : Below wr.heap.size wr wa := by rw [hwa]; exact ((Below.refl _ wr).alloc (Nat.le_refl _) _).drew
        have hsl : Sl wa (fun z => z = q) (some ⟨q, 0, none⟩) cap b := by rw [hwa, hq]; exact hsl
        have HPut := hide (HK.out.put HC.out HFit.out b (by omega) hlK hba (by omega) hsl)
        obtain ⟨x6, hx6⟩ : ∃ z, z = (So.put x b).1 := ⟨_, rfl⟩
        obtain ⟨I, hI⟩ : ∃ z, z = (So.put x b).2.1 := ⟨_, rfl⟩
        obtain ⟨e, he⟩ : ∃ z, z = (So.put x b).2.2 := ⟨_, rfl⟩
        obtain ⟨nb, hnb⟩ : ∃ z, z = b.length := ⟨_, rfl⟩
        rw [← hnb, ← hx6, ← hI, ← he] at HPut
        rw [← hx6] at HF6
        rw [← hnb] at hcv
        rw [← hq] at hcv
        have HWa := hide hwa
        have HEq := hide (And.intro hx6 (And.intro hI (And.intro he hnb)))
        have hcx := HX.out wr HK.out.low
        clear hx hb60 hpb cx hlK hsl hba hwa hq hx6 hI he hnb
        go_wp2_with fail
        rw [← HWa.out]
        refine HPut.out.mono ?_
        clear hcv hcx HPut
        rintro y w5 ⟨rfl, hk5⟩
        have HK5 := hide hk5.swap
        obtain ⟨cap, ob, hcv, hsl⟩ := conv_str b w5
        obtain ⟨q, hq⟩ : ∃ z, z = w5.heap.size := ⟨_, rfl⟩
        obtain ⟨wa2, hwa⟩ : ∃ z, z = (w5.alloc ob).drew := ⟨_, rfl⟩
        have hba : Below w5.heap.size w5 wa2 := by rw [hwa]; exact ((Below.refl _ w5).alloc (Nat.le_refl _) _).drew
        have hsl : Sl wa2 (fun z => z = q) (some ⟨q, 0, none⟩) cap b := by rw [hwa, hq]; exact hsl
        have HPut := hide (HK5.out.put HC.out HFit.out b (by have := Hb60.out; omega) HLk.out hba (by omega) hsl)
        rw [← HEq.out.1, ← HEq.out.2.1, ← HEq.out.2.2.1, ← HEq.out.2.2.2] at HPut
        rw [← HEq.out.2.2.2] at hcv
        rw [← hq] at hcv
        have HWa2 := hide hwa
        have hcx := HX.out w5 HK5.out.low
        clear hk5 hsl hba hwa hq HWa HK
        go_wp2_with fail
        rw [← HWa2.out]
        refine HPut.out.mono ?_
        clear hcv hcx HPut
        rintro y w6 ⟨rfl, hk6⟩
        have HK6 := hide hk6.swap
        clear hk6 HWa2 HK5 HX HEq HFit HLk HF
        have b1 : (I != I) = false := by simp
        have b2 : ((e : Int) != (e : Int)) = false := by simp
        by_cases hw : k < N1
        · obtain ⟨u, hu⟩ : ∃ u, bl[k]? = some u := ⟨_, List.getElem?_eq_getElem (by have := HN1.out; omega)⟩
          obtain ⟨bb1, oo1, rfl, hpb1, cu⟩ := bools_at Hs1.out hu
          have k1 : w6.cell? ⟨bb1, oo1 + k, none⟩ = some (.bool u) := (World.cell?_of_block (a := ⟨bb1, oo1 + k, none⟩) (HK6.out.low.block bb1 hpb1)).trans cu
          clear hu hpb1 cu
          cases u with
          | false =>
            go_wp2
            exact ⟨⟨k + 1, ts, x6, rfl, rfl, by go_num, by omega, by show Hid _; exact HF6, by show Hid _; exact HK6⟩, by simp [intOf]; omega⟩
          | true =>
            have HOp := hide (HK6.out.again HC.out HF6.out.good HF6.out.plain.1 (by have := HF6.out.len; have := HFe.out.2; have := HN.out; omega))
            go_wp2_with fail
            refine HOp.out.mono ?_
            rintro y w7 ⟨ts7, rfl, hk7⟩
            have HK7 := hide hk7
            clear hk7 HOp HK6
            go_wp2
            exact ⟨⟨k + 1, ts7, x6, rfl, rfl, by go_num, by omega, by show Hid _; exact HF6, by show Hid _; exact HK7⟩, by simp [intOf]; omega⟩
        · go_wp2
          exact ⟨⟨k + 1, ts, x6, rfl, rfl, by go_num, by omega, by show Hid _; exact HF6, by show Hid _; exact HK6⟩, by simp [intOf]; omega⟩
      · obtain rfl : k = N := by omega
        obtain ⟨wo, hwo⟩ : ∃ z, z = wr := ⟨_, rfl⟩
        subst hwo
        have hl1 : x.L.length ≤ 1000 := by have := HF.out.few; have := HFe.out.2; have := HN.out; omega
        have HL := hide hl1
        have hkl : x.s.k.length ≤ 9223372036854775807 := by have := HF.out.len; have := HFe.out.2; have := HN.out; omega
        have HKl := hide hkl
        have HBy := hide (HK.out.bytes HF.out.good.fit)
        clear hl1 hkl
        go_wp2_with fail
        refine HBy.out.mono ?_
        rintro y w7 ⟨v7, rfl, hown7, hb7⟩
        obtain ⟨A7, c7, rfl, hs7⟩ := hown7.sl
        have HS7 := hide hs7.bound
        have HK7 := hide (HK.out.below HC.out hb7)
        have HBy2 := hide (HK7.out.swap.bytes HF.out.good.fit)
        obtain ⟨K0, hK0⟩ : ∃ z, z = x.s.k.length := ⟨_, rfl⟩
        have HK0 := hide hK0
        rw [← hK0]
        clear hown7 hb7 hs7 hK0 HBy HK
        go_wp2_with fail
        refine HBy2.out.mono ?_
        rintro y w8 ⟨v8, rfl, hown8, hb8⟩
        obtain ⟨A8, c8, rfl, hs8⟩ := hown8.sl
        rw [← HK0.out]
        have HK8 := hide (HK7.out.below HC.out hb8)
        have HCmp := hide (bytes_two x.s.k x.s.k A7 A8 K0 K0 c7 c8 _ _ w8 (HS7.out.move (w' := w8) fun z _ hz => hb8.block z hz) hs8 HK0.out HK0.out HKl.out)
        rw [decide_eq_true rfl] at HCmp
        clear hown8 hb8 hs8 HBy2 HK7 HS7
        go_wp2_with fail
        refine HCmp.out.mono ?_
        rintro y w9 ⟨rfl, hb9⟩
        have HK9 := hide (HK8.out.below HC.out hb9)
        have HId := hide (HK9.out.ids HC.out HL.out)
        clear hb9 HCmp HK8
        go_wp2_with fail
        refine HId.out.mono ?_
        rintro y wA ⟨vA, rfl, hownA, hbA⟩
        obtain ⟨AA, cA, rfl, hsA⟩ := hownA.vs
        have HSA := hide (vs_low hsA)
        have HKA := hide (HK9.out.below HC.out hbA)
        have HId2 := hide (HKA.out.swap.ids HC.out HL.out)
        obtain ⟨ids, hids⟩ : ∃ z, z = x.L.map sha := ⟨_, rfl⟩
        rw [← hids] at HSA HId2 ⊢
        have hil : ids.length ≤ 9223372036854775807 := by rw [hids, List.length_map]; have := HL.out; omega
        have HIl := hide hil
        obtain ⟨M, hM⟩ : ∃ z, z = ids.length := ⟨_, rfl⟩
        have HM := hide hM
        rw [← hM]
        clear hownA hbA hsA hids hil hM HId HK9
        go_wp2_with fail
        refine HId2.out.mono ?_
        rintro y wB ⟨vB, rfl, hownB, hbB⟩
        obtain ⟨AB, cB, rfl, hsB⟩ := hownB.vs
        have HIa := hide (ids_any ids ids AA AB cA cB _ _ wB (vs_keep HSA.out hbB) hsB HIl.out)
        rw [decide_eq_true rfl] at HIa
        rw [← HM.out] at HIa ⊢
        have HKB := hide (HKA.out.below HC.out hbB)
        clear hownB hbB hsB HId2 HKA HSA
        go_wp2_with fail
        refine HIa.out.mono ?_
        rintro y wC ⟨rfl, hbC⟩
        have HBC := hide (HKB.out.low.trans (hbC.mono HKB.out.low.size))
        clear hbC HIa
        go_wp2
        go_ret
        exact ⟨rfl, HBC.out⟩
end Go.Proofs.YtcmjdepjckhpdabDoor.So
