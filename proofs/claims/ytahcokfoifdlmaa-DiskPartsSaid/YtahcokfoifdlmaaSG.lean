/-
  The disk's example.
-/
import Derived.Test.YtahcokfoifdlmaaSF
import Derived.Lib.SlBytesConst
namespace Go.Proofs.Ytahcokfoifdlmaa.Dk
open Go Go.RowKit Kt Kg Wr Lw

theorem wake_put1 : put (new 5) [97, 98, 99] = (⟨[97, 98, 99], 5, -1, false⟩, 0) := rfl
theorem wake_put2 : put (fused ⟨[97, 98, 99], 5, -1, false⟩ 1) [100, 101] = (⟨[97, 98, 99, 100], 5, -1, true⟩, 9) := rfl
theorem lit_sl (w : World) (l : List UInt8) (cs : Array Value) (fr : Nat × Nat) (hc : cs = (u8s l).toArray) : Sl (w.alloc (.cells cs tU8 fr)) (fun b => b = w.heap.size) (some ⟨w.heap.size, 0, none⟩) l.length l := by
  subst hc
  refine ⟨Nat.le_refl _, fun _ => ⟨w.heap.size, 0, rfl, rfl, fun j hj => ?_⟩⟩
  rw [Nat.zero_add, cell_of_row (w.alloc (.cells (u8s l).toArray tU8 fr)) w.heap.size j (u8s l).toArray tU8 fr (heap_alloc_new w _)]
  have := u8s_get l j hj
  simpa using this
theorem oth_low {S : Nat → Prop} {w0 a b : World} (h : Oth S a b) (hb : Below w0.heap.size w0 a) (hS : ∀ k, S k → w0.heap.size ≤ k) : Below w0.heap.size w0 b :=
  h.below hb hb.size fun k hk hs => by have := hS k hs; omega
set_option maxHeartbeats 2000000 in
set_option maxRecDepth 100000 in
theorem wake_any (w : World) : Calls Try.prog 8 #[] w fun y w' => y = .returned (.bool true) ∧ Below w.heap.size w w' := by
  have H1 := hide (new_yes 5 (by decide) w)
  have fit1 : (new 5).fit := new_fit (by decide)
  have fit2 : St.fit ⟨[97, 98, 99], 5, -1, false⟩ := ⟨by decide, by decide, by decide, by decide⟩
  go_enter Try.func8, Try.ntmps8
  go_wp2_with fail
  refine H1.out.mono ?_
  rintro y w1 ⟨g, rfl, hD, hg, hb⟩
  have hs1 := lit_sl w1 [97, 98, 99] #[.int .u8 97, .int .u8 98, .int .u8 99] (3, 4) rfl
  have hcv := Lib.run_convert_bytes_const (P := Try.prog) w1 30 tU8 #[.int .u8 97, .int .u8 98, .int .u8 99] 3 3 Try.underlying30 Try.underlying5
  simp only [List.size_toArray, List.length_cons, List.length_nil, Nat.reduceAdd] at hcv
  have hb1 := (Below.refl w1.heap.size w1).alloc (Nat.le_refl _) (.cells #[.int .u8 97, .int .u8 98, .int .u8 99] tU8 (3, 4))
  have P1 := put_any (hD.below hb1) fit1 [97, 98, 99] _ _ _ hs1
  rw [wake_put1] at P1
  have HP1 := hide P1
  have HB1 := hide (hb.trans (hb1.mono hb.size))
  have HG := hide hg
  have HSz := hide hb.size
  clear P1 hs1 hD hb hb1 hg H1
  go_wp2_with fail
  refine HP1.out.mono ?_
  clear hcv
  rintro y w2 ⟨rfl, S2, hD2, hO2, hS2⟩
  have hS2' : ∀ k, S2 k → w.heap.size ≤ k := fun k hk => (hS2 k hk).elim (fun e => by have := HG.out; omega) fun h => by have := HB1.out.size; omega
  have HS2 := hide hS2'
  have HB2 := hide (oth_low hO2 HB1.out fun k e => by have := HG.out; omega)
  have HP2 := hide (fuse_any hD2 1)
  clear hD2 hO2 hS2 hS2' HP1 HB1
  go_wp2_with fail
  refine HP2.out.mono ?_
  rintro y w3 ⟨rfl, hD3, hO3⟩
  have HB3 := hide (oth_low hO3 HB2.out HS2.out)
  have hs3 := lit_sl w3 [100, 101] #[.int .u8 100, .int .u8 101] (2, 3) rfl
  have hcv := Lib.run_convert_bytes_const (P := Try.prog) w3 30 tU8 #[.int .u8 100, .int .u8 101] 2 2 Try.underlying30 Try.underlying5
  simp only [List.size_toArray, List.length_cons, List.length_nil, Nat.reduceAdd] at hcv
  have hb3 := (Below.refl w3.heap.size w3).alloc (Nat.le_refl _) (.cells #[.int .u8 100, .int .u8 101] tU8 (2, 3))
  have P3 := put_any (hD3.below hb3) (fused_fit fit2 (by decide)) [100, 101] _ _ _ hs3
  rw [wake_put2] at P3
  have HP3 := hide P3
  have HB4 := hide (HB3.out.trans (hb3.mono HB3.out.size))
  clear P3 hs3 hD3 hO3 hb3 HP2 HB2 HB3
  go_wp2_with fail
  refine HP3.out.mono ?_
  clear hcv
  rintro y w4 ⟨rfl, S4, hD4, hO4, hS4⟩
  have HB5 := hide (oth_low hO4 HB4.out HS2.out)
  have fit4 : St.fit ⟨[97, 98, 99, 100], 5, -1, true⟩ := ⟨by decide, by decide, by decide, by decide⟩
  have HD4 := hide hD4
  have HP4 := hide (bytes_call hD4 fit4)
  clear hD4 hO4 hS4 HP3 HB4 HS2 HSz
  go_wp2_with fail
  refine HP4.out.mono ?_
  rintro y w5 ⟨v, rfl, hown, hb5⟩
  have ht := hown.text (P := Try.prog) 30 9 5 Try.underlying30 Try.underlying5 Try.underlying9
  have HD5 := hide (HD4.out.below hb5)
  have HB6 := hide (HB5.out.trans (hb5.mono HB5.out.size))
  have HP5 := hide (dead_any HD5.out)
  have HP6 := hide (size_any HD5.out)
  have HP7 := hide (left_any HD5.out fit4)
  clear hown hb5 HP4 HB5 HD4
  go_wp2_with fail
  refine HP5.out.mono ?_
  rintro y w6 ⟨rfl, rfl⟩
  clear HP5
  go_wp2_with fail
  refine HP6.out.mono ?_
  rintro y w6 ⟨rfl, rfl⟩
  clear HP6
  go_wp2_with fail
  refine HP7.out.mono ?_
  rintro y w6 ⟨rfl, m, rfl⟩
  clear HP7
  go_wp2
  go_ret
  exact ⟨rfl, below_drewN HB6.out m⟩
end Go.Proofs.Ytahcokfoifdlmaa.Dk
