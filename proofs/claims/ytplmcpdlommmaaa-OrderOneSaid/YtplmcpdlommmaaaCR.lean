/-
  The law OrderCommon, over any graph that keeps the contract.
-/
import Derived.Test.YtplmcpdlommmaaaQCO
namespace Go.Proofs.Ytplmcpdlommmaaa.Oq
open Go Go.RowKit Kt Kg Lw Tr Dq

theorem all_short {D : List Nd} (h : Sm D) {x : Bs} (hx : x ∈ all D true) : x.length ≤ 50 := by have := h.all true x hx; omega
theorem common_short {D : List Nd} (hI : Inv D) (h : Sm D) {a b : List Bs} {m : Bs} (hm : common D a b = some m) : m.length ≤ 50 := all_short h ((all_in2 hI m).2 (bel_has hI (common_some hI hm).1))
/-- what two ids, told in lists of their own, have in common -/
theorem com2 {In : World → (Nat → Prop) → Nat → List Nd → Prop} {w0 W : World} {g : Nat} {D : List Nd} {F : Nat → Prop} (C : Cd w0 In) (h : GD In w0 W g D F) (x y : Bs) (hx : x.length ≤ 50) (hy : y.length ≤ 50) :
    Calls Try.prog 38 #[pt g, .slice (some ⟨W.heap.size, 0, none⟩) 1 1, .slice (some ⟨W.heap.size + 1, 0, none⟩) 1 1] ((W.alloc (.cells #[.string ⟨x.toArray⟩] tId)).alloc (.cells #[.string ⟨y.toArray⟩] tId))
      fun e w' => e = .returned (.tuple #[.string ⟨((common D [x] [y]).getD []).toArray⟩, .bool (common D [x] [y]).isSome]) ∧ Below W.heap.size W w' := by
  obtain ⟨wb, hwb⟩ : ∃ z, z = W.alloc (.cells #[.string ⟨x.toArray⟩] tId) := ⟨_, rfl⟩
  obtain ⟨wc, hwc⟩ : ∃ z, z = wb.alloc (.cells #[.string ⟨y.toArray⟩] tId) := ⟨_, rfl⟩
  have hbb : Below W.heap.size W wb := by rw [hwb]; exact (Below.refl _ W).alloc (Nat.le_refl _) _
  have hbc : Below wb.heap.size wb wc := by rw [hwc]; exact (Below.refl _ wb).alloc (Nat.le_refl _) _
  have hszb : wb.heap.size = W.heap.size + 1 := by rw [hwb]; simp
  have hsb : Vs wb (fun b => b = W.heap.size) (some ⟨W.heap.size, 0, none⟩) 1 (texts [x]) := by rw [hwb]; exact lit_ids W [x] _ rfl
  have hsc : Vs wc (fun b => b = wb.heap.size) (some ⟨wb.heap.size, 0, none⟩) 1 (texts [y]) := by rw [hwc]; exact lit_ids wb [y] _ rfl
  have hb := hbb.trans (hbc.mono hbb.size)
  have hco := gd_common C (h.stay C hb) [x] _ 1 _ (vs_move hsb fun b hb => hbc.block b (by rw [hb]; omega)) (by simp) (by simpa using hx) [y] _ 1 _ hsc (by simp) (by simpa using hy)
  rw [hszb] at hco
  rw [← hwb, ← hwc]
  exact hco.mono fun e w' ⟨q1, q2⟩ => ⟨q1, hb.trans (q2.mono hb.size)⟩
set_option maxRecDepth 100000 in
set_option maxHeartbeats 4000000 in
theorem lawCommon_any {In : World → (Nat → Prop) → Nat → List Nd → Prop} (l : List Nd) (A : Option Addr) (c : Nat) (m1 m2 : Nat) (w : World) (C : Cd w In) (hs : Nds w A c l) (hl : l.length ≤ 9223372036854775807) (h1 : m1 < 256) (h2 : m2 < 256) :
    Calls Try.prog 7 #[.slice A l.length c, .int .u8 (m1 : Int), .int .u8 (m2 : Int)] w fun y w' => y = .returned (.bool true) ∧ Below w.heap.size w w' := by
  have HC := hide C
  have Hs := hide hs
  have Hl := hide hl
  have Hw := hide (owake_any w C)
  obtain ⟨N0, hN0⟩ : ∃ N, N = l.length := ⟨_, rfl⟩
  have HN0 := hide hN0
  rw [← hN0] at hl ⊢
  clear C hs hN0
  go_enter Try.func7, Try.ntmps7
  go_wp2_with fail
  refine Hw.out.mono ?_
  rintro y w1 ⟨rfl, hb1⟩
  have HB1 := hide hb1
  have HFew := hide (rfew_any l A c w1 (Hs.out.keep hb1) Hl.out)
  rw [← HN0.out] at HFew
  clear hb1 Hw
  go_wp2_with fail
  refine HFew.out.mono ?_
  rintro y w2 ⟨rfl, hb2⟩
  have HB2 := hide (HB1.out.trans (hb2.mono HB1.out.size))
  clear hb2 HFew HB1
  cases hfe : fewN l with
  | false =>
    go_wp2
    go_ret
    exact ⟨rfl, HB2.out⟩
  | true =>
    have HBo := hide (both_any l A c w w2 HC.out HB2.out Hs.out (fine_of hfe).1 (by have := (fine_of hfe).2; omega))
    have HSm := hide (run_sm (fine_of hfe).1 (by have := (fine_of hfe).2; omega))
    rw [← HN0.out] at HBo
    clear hfe HB2
    go_wp2_with fail
    refine HBo.out.mono ?_
    rintro y w3 ⟨g, r, Sr, rfl, hg3, _, _, _⟩
    obtain ⟨D, hD⟩ : ∃ D, D = run l := ⟨_, rfl⟩
    rw [← hD] at hg3 HSm
    have HOk := hide hg3.ok
    have HI := hide hg3.ok.inv
    have HG3 := hide (hg3.imp (F' := fun _ => False) fun _ h => h.elim)
    have HId := hide (hg3.ids HC.out)
    clear hg3 hD HBo
    go_wp2_with fail
    refine HId.out.mono ?_
    rintro y w4 ⟨v4, rfl, hown4, hb4⟩
    obtain ⟨A4, c4, rfl, hv4, _⟩ := own_vs hown4
    have HV4 := hide hv4
    have HG4 := hide (HG3.out.stay HC.out hb4)
    obtain ⟨N, hN⟩ : ∃ N, N = (all D true).length := ⟨_, rfl⟩
    rw [← hN]
    have hN40 : N ≤ 40 := by rw [hN]; exact Nat.le_trans (all_len D true) HOk.out.few
    have HN := hide hN
    clear hown4 hb4 hv4 hN HId HG3
    by_cases h0 : N = 0
    · subst h0
      go_wp2
      go_ret
      exact ⟨rfl, HG4.out.low⟩
    · obtain ⟨i, hi⟩ : ∃ i, i = m1 % N := ⟨_, rfl⟩
      obtain ⟨j, hj⟩ : ∃ j, j = m2 % N := ⟨_, rfl⟩
      have hri : (m1 : Int).tmod (N : Int) = (i : Int) := by rw [hi, Int.ofNat_tmod]
      have hrj : (m2 : Int).tmod (N : Int) = (j : Int) := by rw [hj, Int.ofNat_tmod]
      have hiN : i < N := by rw [hi]; exact Nat.mod_lt _ (by omega)
      have hjN : j < N := by rw [hj]; exact Nat.mod_lt _ (by omega)
      obtain ⟨x, hx⟩ : ∃ z, (all D true)[i]? = some z := ⟨_, List.getElem?_eq_getElem (by have := HN.out; omega)⟩
      obtain ⟨y, hy⟩ : ∃ z, (all D true)[j]? = some z := ⟨_, List.getElem?_eq_getElem (by have := HN.out; omega)⟩
      obtain ⟨ab, ao, rfl, _, cx⟩ := vs_at HV4.out hx
      obtain ⟨ab2, ao2, e2, _, cy⟩ := vs_at HV4.out hy
      injection e2 with e2
      injection e2 with e2 e3 _
      subst e2 e3
      have hxm := List.mem_of_getElem? hx
      have hym := List.mem_of_getElem? hy
      have HXl := hide (all_short HSm.out hxm)
      have HYl := hide (all_short HSm.out hym)
      have HXh := hide ((all_in2 HI.out x).1 hxm)
      have HYh := hide ((all_in2 HI.out y).1 hym)
      have hne : ((N : Int) == 0) = false := by rw [beq_eq_false_iff_ne]; omega
      have hnz : ((N : Int) = 0) = False := by simp; omega
      clear hi hj hx hy hxm hym h0
      go_wp2_with fail
      have hco := com2 HC.out HG4.out x y HXl.out HYl.out
      obtain ⟨cm, hcm⟩ : ∃ z, z = common D [x] [y] := ⟨_, rfl⟩
      rw [← hcm] at hco
      have HCm := hide hcm
      have HCo := hide hco
      clear hco hcm cx cy hri hrj hiN hjN hne hnz
      refine HCo.out.mono ?_
      rintro e w5 ⟨rfl, hb5⟩
      have HG5 := hide (HG4.out.stay HC.out hb5)
      have hco := com2 HC.out HG5.out y x HYl.out HXl.out
      rw [common_sw HI.out, ← HCm.out] at hco
      have HCo2 := hide hco
      have HAxy := hide (fun W (hW : GD In w W g D (fun _ => False)) => hW.above HC.out x y HXl.out HYl.out)
      have HAyx := hide (fun W (hW : GD In w W g D (fun _ => False)) => hW.above HC.out y x HYl.out HXl.out)
      clear hb5 hco HCo HG4
      cases cm with
      | none =>
        have hxy : above D x y = false := by
          cases h : above D x y with
          | false => rfl
          | true => have := common_above HI.out h; rw [← HCm.out] at this; cases this
        have hyx : above D y x = false := by
          cases h : above D y x with
          | false => rfl
          | true => have := common_above HI.out h; rw [common_sw HI.out, ← HCm.out] at this; cases this
        rw [hxy] at HAxy
        rw [hyx] at HAyx
        clear hxy hyx
        simp only [Option.getD_none, Option.isSome_none] at HCo2 ⊢
        go_wp2_with fail
        refine HCo2.out.mono ?_
        rintro e w6 ⟨rfl, hb6⟩
        have HG6 := hide (HG5.out.stay HC.out hb6)
        clear hb6 HCo2 HG5
        go_wp2_with fail
        refine (HAxy.out w6 HG6.out).mono ?_
        rintro e w7 ⟨rfl, hb7⟩
        have HG7 := hide (HG6.out.stay HC.out hb7)
        clear hb7
        go_wp2_with fail
        refine (HAyx.out w7 HG7.out).mono ?_
        rintro e w8 ⟨rfl, hb8⟩
        have HG8 := hide (HG7.out.stay HC.out hb8)
        clear hb8
        go_wp2
        go_ret
        exact ⟨rfl, HG8.out.low⟩
      | some m =>
        obtain ⟨q1, q2, q3⟩ := common_some HI.out HCm.out.symm
        have hml := common_short HI.out HSm.out HCm.out.symm
        have hmx := (bel_one HI.out).1 q1
        have hmy := (bel_one HI.out).1 q2
        have HAmx := hide (fun W (hW : GD In w W g D (fun _ => False)) => hW.above HC.out m x hml HXl.out)
        have HAmy := hide (fun W (hW : GD In w W g D (fun _ => False)) => hW.above HC.out m y hml HYl.out)
        rw [hmx] at HAmx
        rw [hmy] at HAmy
        have hXY := hide (show above D x y = true → m = x from fun h => by have := common_above HI.out h; rw [← HCm.out] at this; injection this)
        have hYX := hide (show above D y x = true → m = y from fun h => by have := common_above HI.out h; rw [common_sw HI.out, ← HCm.out] at this; injection this)
        clear q1 q2 q3 hml hmx hmy
        simp only [Option.getD_some, Option.isSome_some] at HCo2 ⊢
        go_wp2_with fail
        refine HCo2.out.mono ?_
        rintro e w6 ⟨rfl, hb6⟩
        have HG6 := hide (HG5.out.stay HC.out hb6)
        have hmm : (m == m) = true := by simp
        clear hb6 HCo2 HG5
        go_wp2_with fail
        refine (HAmx.out w6 HG6.out).mono ?_
        rintro e w7 ⟨rfl, hb7⟩
        have HG7 := hide (HG6.out.stay HC.out hb7)
        clear hb7
        go_wp2_with fail
        refine (HAmy.out w7 HG7.out).mono ?_
        rintro e w8 ⟨rfl, hb8⟩
        have HG8 := hide (HG7.out.stay HC.out hb8)
        clear hb8
        go_wp2_with fail
        refine (HAxy.out w8 HG8.out).mono ?_
        rintro e w9 ⟨rfl, hb9⟩
        have HG9 := hide (HG8.out.stay HC.out hb9)
        clear hb9
        by_cases hxy : above D x y = true
        · have hmx : (m == x) = true := by rw [beq_iff_eq]; have h3 := common_above HI.out hxy; rw [← HCm.out] at h3; injection h3
          rw [hxy]
          clear hxy
          go_wp2
          go_ret
          exact ⟨rfl, HG9.out.low⟩
        · rw [Bool.not_eq_true] at hxy
          rw [hxy]
          clear hxy
          go_wp2_with fail
          refine (HAyx.out w9 HG9.out).mono ?_
          rintro e w10 ⟨rfl, hb10⟩
          have HG10 := hide (HG9.out.stay HC.out hb10)
          clear hb10
          by_cases hyx : above D y x = true
          · have hmy : (m == y) = true := by rw [beq_iff_eq]; have h3 := common_above HI.out hyx; rw [common_sw HI.out, ← HCm.out] at h3; injection h3
            rw [hyx]
            clear hyx
            go_wp2
            go_ret
            exact ⟨rfl, HG10.out.low⟩
          · rw [Bool.not_eq_true] at hyx
            rw [hyx]
            clear hyx
            go_wp2
            go_ret
            exact ⟨rfl, HG10.out.low⟩
end Go.Proofs.Ytplmcpdlommmaaa.Oq
