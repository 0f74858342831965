/-
  What the reference's Hex and Parse come to: the same as the program's.
-/
import Derived.Test.YthdhlefhgjncfaaDoorLwB
import Derived.Test.YthdhlefhgjncfaaDoorRegB
namespace Go.Proofs.YthdhlefhgjncfaaDoor.Dg
open Go Go.RowKit Kt Sha

theorem hexv_low : ∀ n : Nat, n < 256 → (48 ≤ n ∧ n ≤ 57 → hexv (UInt8.ofNat n) = (n : Int) - 48) ∧ (97 ≤ n ∧ n ≤ 102 → hexv (UInt8.ofNat n) = (n : Int) - 87) ∧ (¬ (48 ≤ n ∧ n ≤ 57) → ¬ (97 ≤ n ∧ n ≤ 102) → hexv (UInt8.ofNat n) = -1) := by decide +kernel
theorem hexd_low : ∀ n : Nat, n < 16 → (n < 10 → ((hexd n).toNat : Int) = 48 + (n : Int)) ∧ (¬ n < 10 → ((hexd n).toNat : Int) = 87 + (n : Int)) := by decide +kernel

theorem rdigit_any (n : Nat) (w : World) (h : n < 16) : Calls Tryd.prog 23 #[.int .i64 (n : Int)] w fun e w' => e = .returned (.int .u8 ((hexd n).toNat : Int)) ∧ w = w' := by
  have hd := hide (hexd_low n h)
  by_cases h10 : n < 10
  · go_enter Tryd.func23, Tryd.ntmps23
    go_wp2
    go_ret
    rw [hd.out.1 h10]
    exact ⟨rfl, rfl⟩
  · go_enter Tryd.func23, Tryd.ntmps23
    go_wp2
    go_ret
    rw [hd.out.2 h10]
    exact ⟨rfl, rfl⟩
theorem rvalue_any (c : UInt8) (w : World) : Calls Tryd.prog 22 #[.int .u8 (c.toNat : Int)] w fun e w' => e = .returned (.int .i64 (hexv c)) ∧ w = w' := by
  have hb := toNat_lt c
  have hv := hide (hexv_low c.toNat hb)
  rw [UInt8.ofNat_toNat] at hv
  generalize c.toNat = n at *
  by_cases h1 : 48 ≤ n
  · by_cases h2 : n ≤ 57
    · have hd2 : decide ((n : Int) ≤ 57) = true := by simp; omega
      go_enter Tryd.func22, Tryd.ntmps22
      go_wp2
      go_ret
      rw [hv.out.1 ⟨h1, h2⟩]
      exact ⟨rfl, rfl⟩
    · have hd2 : decide ((n : Int) ≤ 57) = false := by simp; omega
      by_cases h3 : 97 ≤ n
      · by_cases h4 : n ≤ 102
        · go_enter Tryd.func22, Tryd.ntmps22
          go_wp2
          go_ret
          rw [hv.out.2.1 ⟨h3, h4⟩]
          exact ⟨rfl, rfl⟩
        · go_enter Tryd.func22, Tryd.ntmps22
          go_wp2
          go_ret
          rw [hv.out.2.2 (by omega) (by omega)]
          exact ⟨rfl, rfl⟩
      · go_enter Tryd.func22, Tryd.ntmps22
        go_wp2
        go_ret
        rw [hv.out.2.2 (by omega) (by omega)]
        exact ⟨rfl, rfl⟩
  · have h97 : ¬ 97 ≤ n := by omega
    go_enter Tryd.func22, Tryd.ntmps22
    go_wp2
    go_ret
    rw [hv.out.2.2 (by omega) (by omega)]
    exact ⟨rfl, rfl⟩

theorem rhex_no (l : List UInt8) (w : World) (h : l.length ≠ 32) :
    Calls Tryd.prog 14 #[.string ⟨l.toArray⟩] w fun e w' => e = .returned (.string ⟨(hexOf l).toArray⟩) ∧ w = w' := by
  have hv : hexOf l = [] := if_neg h
  have Hv := hide hv
  clear hv
  have hl : ((l.length : Int) != 32) = true := by rw [bne_iff_ne]; omega
  go_enter Tryd.func14, Tryd.ntmps14
  go_wp2
  go_ret
  rw [Hv.out]
  exact ⟨rfl, rfl⟩

set_option maxHeartbeats 200000 in
set_option maxRecDepth 100000 in
theorem rhex_yes (l : List UInt8) (w : World) (h : l.length = 32) :
    Calls Tryd.prog 14 #[.string ⟨l.toArray⟩] w fun e w' => e = .returned (.string ⟨(hexOf l).toArray⟩) ∧ Below w.heap.size w w' := by
  have hv : hexOf l = hexs l := if_pos h
  have Hv := hide hv
  clear hv
  have hl : ((l.length : Int) != 32) = false := by rw [bne_eq_false_iff_eq]; omega
  have H := hide h
  clear h
  go_enter Tryd.func14, Tryd.ntmps14
  go_wp2
  go_loopw [3, 4] (fun v i wr => ∃ k : Nat, k ≤ 32 ∧ i = .int .i64 k ∧ Own wr w.heap.size 5 v (hexs (l.take k)) ∧ Below w.heap.size w wr) (fun _ i _ => 32 - (intOf i).toNat)
  case atStart => exact ⟨0, by omega, rfl, Own.nil _ _ _, Below.refl _ _⟩
  case round =>
    obtain ⟨k, hk, rfl, hown, hb⟩ := hrel
    have Hown := hide hown
    have Hb := hide hb
    clear hown hb
    by_cases hlt : k < 32
    · have hkl : k < l.length := by have := H.out; omega
      have Hnext := hide (hexs_take l k hkl)
      have Hlen := hide (hexs_len (l.take k))
      obtain ⟨b, hb⟩ : ∃ b, ({ data := l.toArray } : ByteArray)[k]'(by simpa [ByteArray.size] using hkl) = b := ⟨_, rfl⟩
      have hbl : l.getD k 0 = b := by
        rw [← hb]
        simp [List.getElem?_eq_getElem hkl]
        rfl
      rw [hbl] at Hnext
      have hb8 := toNat_lt b
      have hd1 := hide (fun W => rdigit_any (b.toNat / 16) W (by omega))
      have hd2 := hide (fun W => rdigit_any (b.toNat % 16) W (by omega))
      have hdiv : (b.toNat : Int) / 16 = ((b.toNat / 16 : Nat) : Int) := by omega
      have hrem : (b.toNat : Int) % 16 = ((b.toNat % 16 : Nat) : Int) := by omega
      have htm : (b.toNat : Int).tmod 16 = ((b.toNat % 16 : Nat) : Int) := by rw [Int.tmod_eq_emod_of_nonneg (by omega)]; omega
      have hw64 : IntKind.i64.wrap (b.toNat : Int) = (b.toNat : Int) := by rw [IntWalk.i64_in _ (by omega)]
      have hwq : IntKind.i64.wrap ((b.toNat / 16 : Nat) : Int) = ((b.toNat / 16 : Nat) : Int) := by rw [IntWalk.i64_in _ (by omega)]
      have hwr : IntKind.i64.wrap ((b.toNat % 16 : Nat) : Int) = ((b.toNat % 16 : Nat) : Int) := by rw [IntWalk.i64_in _ (by omega)]
      generalize b.toNat / 16 = n1 at *
      generalize b.toNat % 16 = n2 at *
      clear hbl
      go_wp2
      refine Rg.wp_region_ord (fun _ => True) [(0, true), (1, true), (2, true), (3, true), (4, true), (5, true), (7, true), (8, true), (9, true), (10, true), (11, true), (6, false), (12, false), (13, false), (14, false), (15, true)] (by kernel_rfl) (by kernel_rfl) ?_
      simp only [Rg.pick, List.map_cons, List.map_nil, List.getD_cons_zero, List.getD_cons_succ]
      iterate 11 (refine Rg.ord_quiet (v := ?_) rfl (fun w' _ => ?_) trivial ?_; rotate_left; (go_simp; with_reducible rfl))
      refine Rg.ord_loud rfl (fun K hK => ?_)
      go_simp
      refine (hd1.out _).mono ?_
      rintro e w' ⟨rfl, rfl⟩
      refine hK _ _ (fun _ => trivial) ?_
      clear hK K
      refine Rg.ord_loud rfl (fun K hK => ?_)
      go_simp
      refine (hd2.out _).mono ?_
      rintro e w' ⟨rfl, rfl⟩
      refine hK _ _ (fun _ => trivial) ?_
      clear hK K
      refine Rg.ord_loud rfl (fun K hK => ?_)
      go_simp
      refine hK _ _ (fun _ => trivial) ?_
      clear hK K
      refine Rg.ord_push wr.drew rfl rfl (.tmp 12) (.tmp 25) 22 rfl Tryd.underlying22 info8 w.heap.size w _ (hexs (l.take k)) [hexd n1, hexd n2] 2 2 (by simp [Act.eval]) (by simp [Act.eval]) Hown.out.drew rfl rfl (by rw [Hlen.out]; simp; omega) Hb.out.drew Hb.out.size ?_
      intro v1 w1 hown1 hb1 _
      refine ⟨fun _ => trivial, ?_⟩
      refine Rg.ord_quiet (v := ?_) rfl (fun w' _ => ?_) trivial ?_
      rotate_left
      · go_simp
        with_reducible rfl
      refine Rg.ord_nil ?_
      simp only [Act.put, List.setIfInBounds_toArray, List.set_cons_succ, List.set_cons_zero]
      go_wp2
      go_roundw
      case rel =>
        rw [← Hnext.out] at hown1
        exact ⟨k + 1, by omega, by go_num, hown1, hb1⟩
      case measure => simp [intOf]; omega
    · obtain rfl : k = 32 := by omega
      have hcv := Hown.out.text 22 9 5 Tryd.underlying22 Tryd.underlying5 Tryd.underlying9
      go_wp2
      go_ret
      refine ⟨?_, Hb.out⟩
      rw [Hv.out]
      have e : l.take 32 = l := List.take_of_length_le (by rw [H.out]; omega)
      show Ending.returned (.string ⟨(hexs (l.take 32)).toArray⟩) = _
      rw [e]

theorem rparse_no (l : List UInt8) (w : World) (h : l.length ≠ 64) :
    Calls Tryd.prog 12 #[.string ⟨l.toArray⟩] w fun e w' => e = .returned (parsed (parseOf l)) ∧ Below w.heap.size w w' := by
  have hv : parseOf l = none := if_neg h
  have Hv := hide hv
  clear hv
  have hl : ((l.length : Int) != 64) = true := by rw [bne_iff_ne]; omega
  go_enter Tryd.func12, Tryd.ntmps12
  go_wp2
  go_ret2
  rw [Hv.out]
  exact ⟨rfl, Below.refl _ _⟩

set_option maxHeartbeats 1000000 in
set_option maxRecDepth 100000 in
theorem rparse_yes (l : List UInt8) (w : World) (h : l.length = 64) :
    Calls Tryd.prog 12 #[.string ⟨l.toArray⟩] w fun e w' => e = .returned (parsed (parseOf l)) ∧ Below w.heap.size w w' := by
  have hv : parseOf l = parseN l 32 := if_pos h
  have Hv := hide hv
  clear hv
  have hl : ((l.length : Int) != 64) = false := by rw [bne_eq_false_iff_eq]; omega
  have H := hide h
  clear h
  go_enter Tryd.func12, Tryd.ntmps12
  go_wp2
  go_loopw [4, 5] (fun v i wr => ∃ (k : Nat) (r : List UInt8), k ≤ 32 ∧ i = .int .i64 k ∧ Hid (parseN l k = some r) ∧ Own wr w.heap.size 5 v r ∧ Below w.heap.size w wr) (fun _ i _ => 32 - (intOf i).toNat)
  case atStart => exact ⟨0, [], by omega, rfl, rfl, Own.nil _ _ _, Below.refl _ _⟩
  case round =>
    obtain ⟨k, r, hk, rfl, Hp, hown, hb⟩ := hrel
    have Hown := hide hown
    have Hb := hide hb
    have Hlen := hide (parseN_len l k r Hp.out)
    clear hown hb
    by_cases hlt : k < 32
    · have hk0 : 2 * k < l.length := by have := H.out; omega
      have hk1 : 2 * k + 1 < l.length := by have := H.out; omega
      have Hn : Hid (parseN l (k + 1) = if hexv (l.getD (2 * k) 0) < 0 ∨ hexv (l.getD (2 * k + 1) 0) < 0 then none else some (r ++ [UInt8.ofNat (hexv (l.getD (2 * k) 0) * 16 + hexv (l.getD (2 * k + 1) 0)).toNat])) := by
        show parseN l (k + 1) = _
        simp only [parseN, Hp.out]
      obtain ⟨b, hb⟩ : ∃ b, ({ data := l.toArray } : ByteArray)[2 * k]'(by simpa [ByteArray.size] using hk0) = b := ⟨_, rfl⟩
      have hbl : l.getD (2 * k) 0 = b := by
        rw [← hb]
        simp [List.getElem?_eq_getElem hk0]
        rfl
      obtain ⟨c, hc⟩ : ∃ c, ({ data := l.toArray } : ByteArray)[2 * k + 1]'(by simpa [ByteArray.size] using hk1) = c := ⟨_, rfl⟩
      have hcl : l.getD (2 * k + 1) 0 = c := by
        rw [← hc]
        simp [List.getElem?_eq_getElem hk1]
        rfl
      rw [hbl, hcl] at Hn
      clear hbl hcl
      have v1 := hexv_le b
      have v2 := hexv_le c
      have C1 := fun W => rvalue_any b W
      have C2 := fun W => rvalue_any c W
      generalize hexv b = x at *
      generalize hexv c = y at *
      obtain ⟨x1, x2⟩ := v1
      obtain ⟨y1, y2⟩ := v2
      have HC1 := hide C1
      have HC2 := hide C2
      clear C1 C2
      go_wp2_with fail
      refine (HC1.out _).mono ?_
      rintro e w' ⟨rfl, rfl⟩
      go_wp2_with fail
      refine (HC2.out _).mono ?_
      rintro e w' ⟨rfl, rfl⟩
      by_cases hx : x < 0
      · have Hnone : Hid (parseN l 32 = none) := parseN_none l (k + 1) 32 (by rw [Hn.out, if_pos (.inl hx)]) (by omega)
        go_wp2
        go_ret2
        rw [Hv.out, Hnone.out]
        exact ⟨rfl, Hb.out⟩
      · by_cases hy : y < 0
        · have Hnone : Hid (parseN l 32 = none) := parseN_none l (k + 1) 32 (by rw [Hn.out, if_pos (.inr hy)]) (by omega)
          have hx0 : decide (x < 0) = false := by simpa using hx
          go_wp2
          go_ret2
          rw [Hv.out, Hnone.out]
          exact ⟨rfl, Hb.out⟩
        · have hsome : parseN l (k + 1) = some (r ++ [UInt8.ofNat (x * 16 + y).toNat]) := by rw [Hn.out, if_neg (by omega)]
          have Hsome := hide hsome
          clear hsome
          have hx0 : 0 ≤ x := by omega
          have hy0 : 0 ≤ y := by omega
          have hcs : Hid ((#[Value.int .u8 (16 * x + y)] : Array Value) = (u8s [UInt8.ofNat (x * 16 + y).toNat]).toArray) := by
            simp only [Hid, u8s, List.map_cons, List.map_nil, UInt8.toNat_ofNat']
            rw [show (((x * 16 + y).toNat % 2 ^ 8 : Nat) : Int) = 16 * x + y from by omega]
          go_wp2_with (refine wpList_push rfl (.tmp 32) (.tmp 38) 22 rfl Tryd.underlying22 info8 w.heap.size w _ r [UInt8.ofNat (x * 16 + y).toNat] 1 1 rfl rfl Hown.out hcs.out rfl (by rw [Hlen.out]; simp; omega) Hb.out Hb.out.size ?_; intro v1 w1 hown1 hb1 _)
          go_roundw
          case rel => exact ⟨k + 1, _, by omega, by go_num, Hsome, hown1, hb1⟩
          case measure => simp [intOf]; omega
    · obtain rfl : k = 32 := by omega
      have hcv := Hown.out.text 22 24 5 Tryd.underlying22 Tryd.underlying5 Tryd.underlying24
      go_wp2
      go_ret2
      refine ⟨?_, Hb.out⟩
      rw [Hv.out, Hp.out]
      rfl
end Go.Proofs.YthdhlefhgjncfaaDoor.Dg
