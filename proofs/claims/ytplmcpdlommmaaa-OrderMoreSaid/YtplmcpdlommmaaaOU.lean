/-
  The law OrderMore, over any graph that keeps the contract.
-/
import Derived.Test.YtplmcpdlommmaaaCZ
import Derived.Test.YtplmcpdlommmaaaCR
namespace Go.Proofs.Ytplmcpdlommmaaa.Oq
open Go Go.RowKit Kt Kg Lw Tr Dq

theorem fine_app {l m : List Nd} (h : Fine l) (k : Fine m) : Fine (l ++ m) := fun n hn => (List.mem_append.1 hn).elim (h n) (k n)
theorem ndr_none (w : World) {B : Nat} (hB : B ≤ w.heap.size) : NdR (w.alloc (.cells #[] tNd)) B (.slice (some ⟨w.heap.size, 0, none⟩) 0 0) [] :=
  ⟨rfl, .inr ⟨w.heap.size, 0, #[], rfl, hB, Row.fresh w tNd #[], Nat.le_refl _, Nat.zero_le _, rfl, rfl⟩⟩
theorem nd_cells {w W : World} {A : Option Addr} {L : List Nd} {V : List (Nd × Value)} (h : 0 < L.length → ∃ b o, A = some ⟨b, o, none⟩ ∧ b < w.heap.size ∧ ∀ j u, (V.flatMap ndP)[j]? = some u → w.cell? ⟨b, o + j, none⟩ = some u) (hm : V.map (·.1) = L) (hb : Below w.heap.size w W) :
    0 < V.length → ∃ b o, A = some ⟨b, o, none⟩ ∧ ∀ j u, (V.flatMap ndP)[j]? = some u → W.cell? ⟨b, o + j, none⟩ = some u := fun h0 => by
  obtain ⟨b, o, e, hlt, hc⟩ := h (by rw [← hm, List.length_map]; exact h0)
  exact ⟨b, o, e, fun j u hu => (World.cell?_of_block (a := ⟨b, o + j, none⟩) (hb.block b hlt)).trans (hc j u hu)⟩
set_option maxRecDepth 100000 in
set_option maxHeartbeats 8000000 in
theorem lawMore_any {In : World → (Nat → Prop) → Nat → List Nd → Prop} (l m : List Nd) (A A' : Option Addr) (c c' : Nat) (m1 m2 : Nat) (w : World) (C : Cd w In) (hs : Nds w A c l) (hs' : Nds w A' c' m) (hl : l.length ≤ 9223372036854775807) (hm : m.length ≤ 9223372036854775807) (h1 : m1 < 256) (h2 : m2 < 256) :
    Calls Try.prog 6 #[.slice A l.length c, .slice A' m.length c', .int .u8 (m1 : Int), .int .u8 (m2 : Int)] w fun y w' => y = .returned (.bool true) ∧ Below w.heap.size w w' := by
  have HC := hide C
  have Hs := hide hs
  have Hs' := hide hs'
  have Hl := hide hl
  have Hm := hide hm
  have Hw := hide (owake_any w C)
  obtain ⟨N0, hN0⟩ : ∃ N, N = l.length := ⟨_, rfl⟩
  have HN0 := hide hN0
  obtain ⟨M0, hM0⟩ : ∃ N, N = m.length := ⟨_, rfl⟩
  have HM0 := hide hM0
  rw [← hN0, ← hM0]
  clear C hs hs' hN0 hM0 hl hm
  go_enter Try.func6, Try.ntmps6
  go_wp2_with fail
  refine Hw.out.mono ?_
  rintro y w1 ⟨rfl, hb1⟩
  have HB1 := hide hb1
  have HFew := hide (rfew_any l A c w1 (Hs.out.keep hb1) Hl.out)
  rw [← HN0.out] at HFew
  clear hb1 Hw
  go_wp2_with fail
  refine HFew.out.mono ?_
  rintro y w2 ⟨rfl, hb2⟩
  have HB2 := hide (HB1.out.trans (hb2.mono HB1.out.size))
  have HFew2 := hide (rfew_any m A' c' w2 (Hs'.out.keep HB2.out) Hm.out)
  rw [← HM0.out] at HFew2
  clear hb2 HFew HB1
  go_wp2_with fail
  refine HFew2.out.mono ?_
  rintro y w3 ⟨rfl, hb3⟩
  have HB3 := hide (HB2.out.trans (hb3.mono HB2.out.size))
  clear hb3 HFew2 HB2
  cases hfe : fewN l with
  | false =>
    go_wp2
    go_ret
    exact ⟨rfl, HB3.out⟩
  | true =>
    cases hfm : fewN m with
    | false =>
      go_wp2
      go_ret
      exact ⟨rfl, HB3.out⟩
    | true =>
      have HFl := hide (fine_of hfe)
      have HFm := hide (fine_of hfm)
      have hfl := HFl.out.2
      have hfm2 := HFm.out.2
      rw [← HN0.out] at hfl
      rw [← HM0.out] at hfm2
      have HBo := hide (both_any l A c w w3 HC.out HB3.out Hs.out HFl.out.1 (by have := HFl.out.2; omega))
      have HSm := hide (run_sm HFl.out.1 (by have := HFl.out.2; omega))
      have HLn := hide (Nat.le_trans (run_keeps l).2.2 HFl.out.2)
      rw [← HN0.out] at HBo
      clear hfe hfm HB3
      go_wp2_with fail
      refine HBo.out.mono ?_
      rintro y w4 ⟨g, r, Sr, rfl, hg4, _, _, _⟩
      obtain ⟨D, hD⟩ : ∃ D, D = run l := ⟨_, rfl⟩
      rw [← hD] at hg4 HSm HLn
      have HD := hide hD
      have HI := hide hg4.ok.inv
      have HG4 := hide (hg4.imp (F' := fun _ => False) fun _ h => h.elim)
      obtain ⟨Vl, hVl, hVl2, hVl3⟩ := nds_split (Hs.out.keep HG4.out.low)
      obtain ⟨Vm, hVm, hVm2, hVm3⟩ := nds_split (Hs'.out.keep HG4.out.low)
      have hVll : Vl.length = N0 := by rw [HN0.out, ← hVl, List.length_map]
      have hVml : Vm.length = M0 := by rw [HM0.out, ← hVm, List.length_map]
      have HVl := hide (And.intro hVl (And.intro hVl2 hVl3))
      have HVm := hide (And.intro hVm (And.intro hVm2 hVm3))
      have hb0 : Below w4.heap.size w4 (w4.alloc (.cells #[] tNd)) := (Below.refl _ _).alloc (Nat.le_refl _) _
      have HO0 := hide (ndr_none w4 (Nat.le_refl w4.heap.size))
      have HB0 := hide hb0
      have HVll := hide hVll
      have HVml := hide hVml
      have tok1 : True := trivial
      clear hg4 hD HBo hVl hVl2 hVl3 hVm hVm2 hVm3 hb0 hVll hVml
      go_wp2_with (first
        | (have _t := tok1; at_builtin; go_loud (refine wpList_catNd rfl (.tmp 41) (.tmp 42) rfl w4.heap.size w4 _ [] Vl A c rfl (by rw [HVll.out]; rfl) HO0.out (nd_cells HVl.out.2.2 HVl.out.1 HB0.out) (NdV.one HVl.out.2.1) (by rw [HVll.out, List.length_nil]; omega) HB0.out HB0.out.size ?_; intro v6 w6 hown6 hb6; have HO6 := hide hown6; have HB6 := hide hb6; clear hown6 hb6; clear tok1))
        | (at_builtin; go_loud (refine wpList_catNd rfl (.tmp 43) (.tmp 44) rfl w4.heap.size w4 _ ([] ++ Vl) Vm A' c' rfl (by rw [HVml.out]; rfl) HO6.out (nd_cells HVm.out.2.2 HVm.out.1 HB6.out) (NdV.one HVm.out.2.1) (by rw [HVml.out, List.nil_append, HVll.out]; omega) HB6.out HB6.out.size ?_; intro v7 w7 hown7 hb7; have HO7 := hide hown7; have HB7 := hide hb7; clear hown7 hb7)))
      have hnv : NdV w7 ([] ++ Vl ++ Vm) := fun p hp => by
        rw [List.nil_append] at hp
        rcases List.mem_append.1 hp with hp | hp
        · exact (HVl.out.2.1.keep HB7.out) p hp
        · exact (HVm.out.2.1.keep HB7.out) p hp
      obtain ⟨A7, c7, hv7, hnd7⟩ := nds_own HO7.out hnv
      have hmap : (([] ++ Vl ++ Vm : List (Nd × Value)).map (·.1)) = l ++ m := by rw [List.nil_append, List.map_append, HVl.out.1, HVm.out.1]
      have hlen : ([] ++ Vl ++ Vm : List (Nd × Value)).length = (l ++ m).length := by rw [← hmap, List.length_map]
      rw [hmap] at hnd7
      rw [hlen] at hv7
      subst hv7
      have HG7 := hide (HG4.out.stay HC.out HB7.out)
      have HC7 := hide (rebase HC.out HG7.out.low)
      have hbo := both_any (l ++ m) A7 c7 w7 w7 HC7.out (Below.refl _ _) hnd7 (fine_app HFl.out.1 HFm.out.1) (by rw [List.length_append]; have := HFl.out.2; have := HFm.out.2; omega)
      obtain ⟨K, hK⟩ : ∃ K, K = (l ++ m).length := ⟨_, rfl⟩
      rw [← hK] at hbo ⊢
      have HBo := hide hbo
      have HEx := hide (run_ext l m)
      rw [← HD.out] at HEx
      have HSe := hide (run_sm (fine_app HFl.out.1 HFm.out.1) (by rw [List.length_append]; have := HFl.out.2; have := HFm.out.2; omega))
      clear hnv hmap hlen hnd7 hbo hK HO0 HB0 HO6 HB6 HO7 HVl HVm HVll HVml HG4 HB7
      go_wp2_with fail
      refine HBo.out.mono ?_
      rintro y w5 ⟨g2, r2, Sr2, rfl, hg5, _, _, hb5⟩
      obtain ⟨E, hE⟩ : ∃ E, E = run (l ++ m) := ⟨_, rfl⟩
      have HFu := hide (run_keeps (l ++ m)).2.1
      rw [← hE] at hg5 HEx HSe HFu
      have HIe := hide hg5.ok.inv
      have HE5 := hide ((gd_base hg5 HG7.out.low).imp (F' := fun _ => False) fun _ h => h.elim)
      have HG5 := hide (HG7.out.stay HC.out hb5)
      have HId := hide (HG5.out.ids HC.out)
      clear hg5 hb5 hE HBo HG7 HC7
      go_wp2_with fail
      refine HId.out.mono ?_
      rintro y w6 ⟨v6, rfl, hown6, hb6⟩
      obtain ⟨A6, c6, rfl, hv6, _⟩ := own_vs hown6
      have HV6 := hide hv6
      have HG6 := hide (HG5.out.stay HC.out hb6)
      have HE6 := hide (HE5.out.stay HC.out hb6)
      obtain ⟨N, hN⟩ : ∃ N, N = (all D true).length := ⟨_, rfl⟩
      rw [← hN]
      have hN14 : N ≤ 14 := by rw [hN]; exact Nat.le_trans (all_len D true) HLn.out
      have HN := hide hN
      clear hown6 hb6 hv6 hN HId HG5 HE5
      by_cases h0 : N = 0
      · subst h0
        go_wp2
        go_ret
        exact ⟨rfl, HG6.out.low⟩
      · obtain ⟨i, hi⟩ : ∃ i, i = m1 % N := ⟨_, rfl⟩
        obtain ⟨j, hj⟩ : ∃ j, j = m2 % N := ⟨_, rfl⟩
        have hri : (m1 : Int).tmod (N : Int) = (i : Int) := by rw [hi, Int.ofNat_tmod]
        have hrj : (m2 : Int).tmod (N : Int) = (j : Int) := by rw [hj, Int.ofNat_tmod]
        have hiN : i < N := by rw [hi]; exact Nat.mod_lt _ (by omega)
        have hjN : j < N := by rw [hj]; exact Nat.mod_lt _ (by omega)
        obtain ⟨x, hx⟩ : ∃ z, (all D true)[i]? = some z := ⟨_, List.getElem?_eq_getElem (by have := HN.out; omega)⟩
        obtain ⟨y, hy⟩ : ∃ z, (all D true)[j]? = some z := ⟨_, List.getElem?_eq_getElem (by have := HN.out; omega)⟩
        obtain ⟨ab, ao, rfl, hpb, cx⟩ := vs_at HV6.out hx
        obtain ⟨ab2, ao2, e2, _, cy⟩ := vs_at HV6.out hy
        injection e2 with e2
        injection e2 with e2 e3 _
        subst e2 e3
        have hxm := List.mem_of_getElem? hx
        have hym := List.mem_of_getElem? hy
        have HXl := hide (all_short HSm.out hxm)
        have HYl := hide (all_short HSm.out hym)
        have HXh := hide ((all_in2 HI.out x).1 hxm)
        have HYh := hide ((all_in2 HI.out y).1 hym)
        have hne : ((N : Int) == 0) = false := by rw [beq_eq_false_iff_ne]; omega
        have hnz : ((N : Int) = 0) = False := by simp; omega
        obtain ⟨wb, hwb⟩ : ∃ z, w6.alloc (.cells #[.string ⟨x.toArray⟩] tId) = z := ⟨_, rfl⟩
        obtain ⟨wc, hwc⟩ : ∃ z, wb.alloc (.cells #[.string ⟨y.toArray⟩] tId) = z := ⟨_, rfl⟩
        have hbb : Below w6.heap.size w6 wb := by rw [← hwb]; exact (Below.refl _ w6).alloc (Nat.le_refl _) _
        have hbc : Below wb.heap.size wb wc := by rw [← hwc]; exact (Below.refl _ wb).alloc (Nat.le_refl _) _
        have hsb : Vs wb (fun b => b = w6.heap.size) (some ⟨w6.heap.size, 0, none⟩) 1 (texts [x]) := by rw [← hwb]; exact lit_ids w6 [x] _ rfl
        have hsc : Vs wc (fun b => b = wb.heap.size) (some ⟨wb.heap.size, 0, none⟩) 1 (texts [y]) := by rw [← hwc]; exact lit_ids wb [y] _ rfl
        have hb := hbb.trans (hbc.mono hbb.size)
        have HVx := hide (vs_low (vs_keep (vs_low hsb) hbc))
        have HVy := hide (vs_low hsc)
        have HVi := hide (vs_low (vs_keep HV6.out hb))
        have HGc := hide (HG6.out.stay HC.out hb)
        have HEc := hide (HE6.out.stay HC.out hb)
        have cyb := (World.cell?_of_block (a := ⟨ab, ao + j, none⟩) (hbb.block ab hpb)).trans cy
        have hco := gd_common HC.out HGc.out [x] _ 1 _ HVx.out (by simp) (by simpa using HXl.out) [y] _ 1 _ HVy.out (by simp) (by simpa using HYl.out)
        obtain ⟨cs, hcs⟩ : ∃ z, z = (common D [x] [y]).getD [] := ⟨_, rfl⟩
        obtain ⟨ci, hci⟩ : ∃ z, z = (common D [x] [y]).isSome := ⟨_, rfl⟩
        rw [← hcs, ← hci] at hco
        have HCs := hide hcs
        have HCi := hide hci
        have HCo := hide hco
        clear hi hj hx hy hxm hym h0 hbb hbc hsb hsc hb hco hpb hcs hci HV6 HG6 HE6
        go_wp2_with fail
        clear hwb hwc cx cy cyb hri hrj hiN hjN hne hnz
        refine HCo.out.mono ?_
        rintro e w7 ⟨rfl, hb7⟩
        have HVx7 := hide (vs_low (vs_keep HVx.out hb7))
        have HVy7 := hide (vs_low (vs_keep HVy.out hb7))
        have HVi7 := hide (vs_low (vs_keep HVi.out hb7))
        have HG7 := hide (HGc.out.stay HC.out hb7)
        have HE7 := hide (HEc.out.stay HC.out hb7)
        have hco := gd_common HC.out HE7.out [x] _ 1 _ HVx7.out (by simp) (by simpa using HXl.out) [y] _ 1 _ HVy7.out (by simp) (by simpa using HYl.out)
        rw [ext_common HI.out HIe.out HFu.out HEx.out (a := [x]) (b := [y]) (fun z hz => by rw [List.mem_singleton.1 hz]; exact HXh.out) (fun z hz => by rw [List.mem_singleton.1 hz]; exact HYh.out), ← HCs.out, ← HCi.out] at hco
        have HCo2 := hide hco
        clear hb7 hco HCo HVx HVy HVi HGc HEc HCs HCi HYl HYh
        go_wp2_with fail
        refine HCo2.out.mono ?_
        rintro e w8 ⟨rfl, hb8⟩
        have HVx8 := hide (vs_low (vs_keep HVx7.out hb8))
        have HVi8 := hide (vs_low (vs_keep HVi7.out hb8))
        have HG8 := hide (HG7.out.stay HC.out hb8)
        have HE8 := hide (HE7.out.stay HC.out hb8)
        have HOr := hide (show N ≤ 12 ∨ N ≤ 14 ∧ (all D true).Nodup from .inr ⟨hN14, up_once2 (all_up2 HI.out true)⟩)
        have hra := gd_ranks14 HC.out HG8.out (all D true) _ c6 _ HVi8.out (by rw [← HN.out]; exact HOr.out) (fun z hz => all_short HSm.out hz)
        rw [← HN.out] at hra
        have HRa := hide hra
        have hqs : (cs == cs) = true := by simp
        have hqi : (ci == ci) = true := by simp
        clear hb8 hra HCo2 HVx7 HVy7 HVi7 HG7 HE7
        go_wp2_with fail
        refine HRa.out.mono ?_
        rintro e w9 ⟨v9, rfl, hown9, hb9⟩
        obtain ⟨A9, c9, rfl, hv9, _⟩ := own_vs hown9
        rw [ranks_whole HI.out, ← HN.out]
        have HV9 := hide hv9
        have HVx9 := hide (vs_low (vs_keep HVx8.out hb9))
        have HVi9 := hide (vs_low (vs_keep HVi8.out hb9))
        have HG9 := hide (HG8.out.stay HC.out hb9)
        have HE9 := hide (HE8.out.stay HC.out hb9)
        have hra := gd_ranks14 HC.out HE9.out (all D true) _ c6 _ HVi9.out (by rw [← HN.out]; exact HOr.out) (fun z hz => all_short HSm.out hz)
        rw [ext_ranks HI.out HIe.out HFu.out HEx.out (fun z hz => (all_in2 HI.out z).1 hz), ← HN.out] at hra
        have HRe := hide hra
        clear hown9 hv9 hb9 hra HRa HVx8 HVi8 HG8 HE8
        go_wp2_with fail
        refine HRe.out.mono ?_
        rintro e wA ⟨vA, rfl, hownA, hbA⟩
        obtain ⟨AA, cA, rfl, hvA, _⟩ := own_vs hownA
        rw [ranks_whole HI.out, ← HN.out]
        have HVxA := hide (vs_low (vs_keep HVx9.out hbA))
        have HGA := hide (HG9.out.stay HC.out hbA)
        have HEA := hide (HE9.out.stay HC.out hbA)
        have hid := ids_any (ranks D (all D true)) (ranks D (all D true)) A9 AA c9 cA _ _ wA (vs_keep HV9.out hbA) hvA (by rw [ranks_whole HI.out, ← HN.out]; omega)
        rw [decide_eq_true rfl, ranks_whole HI.out, ← HN.out] at hid
        have HIs := hide hid
        clear hownA hvA hbA hid HRe HV9 HVx9 HVi9 HG9 HE9
        go_wp2_with fail
        refine HIs.out.mono ?_
        rintro e wB ⟨rfl, hbB⟩
        have HVxB := hide (vs_low (vs_keep HVxA.out hbB))
        have HGB := hide (HGA.out.stay HC.out hbB)
        have HEB := hide (HEA.out.stay HC.out hbB)
        have HBe := hide (gd_below HC.out HGB.out [x] _ 1 _ HVxB.out (by simp) (by simpa using HXl.out))
        clear hbB HIs HVxA HGA HEA
        go_wp2_with fail
        refine HBe.out.mono ?_
        rintro e wD ⟨vD, rfl, hownD, hbD⟩
        obtain ⟨AD, cD, rfl, hvD, _⟩ := own_vs hownD
        have HVD := hide hvD
        have HVxD := hide (vs_low (vs_keep HVxB.out hbD))
        have HGD := hide (HGB.out.stay HC.out hbD)
        have HED := hide (HEB.out.stay HC.out hbD)
        have hbe := gd_below HC.out HED.out [x] _ 1 _ HVxD.out (by simp) (by simpa using HXl.out)
        rw [ext_bel HI.out HIe.out HFu.out HEx.out (fun z hz => by rw [List.mem_singleton.1 hz]; exact HXh.out)] at hbe
        have HBe2 := hide hbe
        clear hownD hvD hbD hbe HBe HVxB HGB HEB
        go_wp2_with fail
        refine HBe2.out.mono ?_
        rintro e wE ⟨vE, rfl, hownE, hbE⟩
        obtain ⟨AE, cE, rfl, hvE, _⟩ := own_vs hownE
        have HGE := hide (HGD.out.stay HC.out hbE)
        have hid := ids_any (bel D [x]) (bel D [x]) AD AE cD cE _ _ wE (vs_keep HVD.out hbE) hvE (by have := bel_len D [x]; have := HN.out; omega)
        rw [decide_eq_true rfl] at hid
        have HIs := hide hid
        clear hownE hvE hbE hid HBe2 HVD HVxD HGD HED
        go_wp2_with fail
        refine HIs.out.mono ?_
        rintro e wF ⟨rfl, hbF⟩
        have HGF := hide (HGE.out.stay HC.out hbF)
        clear hbF HIs HGE
        go_wp2
        go_ret
        exact ⟨by simp, HGF.out.low⟩
end Go.Proofs.Ytplmcpdlommmaaa.Oq
