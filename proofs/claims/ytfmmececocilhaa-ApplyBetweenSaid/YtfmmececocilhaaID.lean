/-
  The reference's Make.
-/
import Derived.Test.YtfmmececocilhaaIJ
import Derived.Test.YtfmmececocilhaaIN
namespace Go.Proofs.Ytfmmececocilhaa.Hu
open Go Go.RowKit Kt Lw Li Df

set_option maxHeartbeats 8000000 in
set_option maxRecDepth 100000 in
theorem refMake_yes : RefYes := by
  intro a r L A A' c c' P w hs hs' hn hl hr1 hsz hr hxa hxe
  have Hs := hide hs.bound
  have Hs' := hide hs'
  have HRt := hide (Df.refRight_any a.length L A' c' w hs' (by omega) (by omega) (by omega))
  rw [hr] at HRt
  have Hr := hide hr
  have Hsz := hide hsz
  have HxA := hide hxa
  have HxE := hide hxe
  obtain ⟨T, hT⟩ : ∃ T, T = mkHs a r 0 L := ⟨_, rfl⟩
  obtain ⟨n, hna⟩ : ∃ n, n = a.length := ⟨_, rfl⟩
  obtain ⟨N, hN⟩ : ∃ N, N = L.length := ⟨_, rfl⟩
  rw [← hN] at hl HRt ⊢
  rw [← hna] at hn HRt ⊢
  rw [← hT]
  have HN := hide hN
  have HA := hide hna
  have HT := hide hT
  clear hs hs' hr hsz hxa hxe hN hna hT
  have hrz : ¬ (r : Int) < 0 := by omega
  have dr1 : decide ((r : Int) < 0) = false := decide_eq_false hrz
  have dr2 : decide (1000 < (r : Int)) = false := decide_eq_false (by omega)
  clear hrz
  go_enter Try.func21, Try.ntmps21
  go_wp2_with fail
  refine HRt.out.mono ?_
  rintro y w1 ⟨rfl, hb1⟩
  have Hb1 := hide hb1
  clear hb1 HRt
  go_wp2
  clear dr1 dr2
  go_loopw [9, 10, 11, 12] (fun o e m i wr => ∃ (k z : Nat) (more : Int) (o0 : Value), o0 = o ∧ k ≤ N ∧ i = .int .i64 k ∧ e = .int .i64 z ∧ m = .int .i64 more ∧ (-1000 * (k : Int) ≤ more ∧ more ≤ 1000 * k) ∧ z ≤ n ∧ (Shut a r L T wr w.heap.size o0 k more ∨ Open a r L T wr w.heap.size o0 k z more) ∧ Below w.heap.size w wr) (fun _ _ _ i _ => N - (intOf i).toNat)
  case atStart => exact ⟨0, 0, 0, _, rfl, Nat.zero_le _, rfl, rfl, rfl, by omega, Nat.zero_le _, .inl ⟨[], OwH.nil _ _, HT.out.symm, Nat.le_refl _, Hr.out, fun e f h => absurd rfl h⟩, Hb1.out⟩
  case round =>
    obtain ⟨k, z, more, v, rfl, hk, rfl, rfl, rfl, hmore, hzn, hst, hb⟩ := hrel
    have Hb := hide hb
    have Hst := hide hst
    clear hb hst
    by_cases hlt : k < N
    · obtain ⟨bE, oE, f, Ae, ce, hA', hke, ⟨c0, c1, c2⟩, hve⟩ := Hs'.out.at (Below.refl _ w) (k := k) (by have := HN.out; omega)
      subst hA'
      have hkL : k < L.length := by have := HN.out; omega
      have hfL : f ∈ L := List.mem_of_getElem? hke
      have hins := ins_size hfL
      have hdk : L.drop k = f :: L.drop (k + 1) := by
        rw [List.drop_eq_getElem_cons hkL]
        rw [List.getElem?_eq_getElem hkL] at hke
        injection hke with hke
        rw [hke]
      have hbd := right_bd a.length L (-1) Hr.out (by omega) f hfL
      rw [← HA.out] at hbd
      obtain ⟨p, hp⟩ := Int.eq_ofNat_of_zero_le hbd.1.1
      obtain ⟨d, hd⟩ := Int.eq_ofNat_of_zero_le hbd.2.1
      have hpn : p ≤ n := by omega
      have hdn : d ≤ n := by omega
      have hpd : p + d ≤ n := by
        have h1 := Hr.out
        rw [← List.take_append_drop k L, hdk] at h1
        obtain ⟨p9, d9, ep, ed, hpd9, _⟩ := right_head (right_tail h1) (by omega)
        have h2 : f.pos = (p : Int) := hp
        have h3 : f.del = (d : Int) := hd
        have h4 := HA.out
        omega
      obtain ⟨I, hI⟩ : ∃ I, I = f.ins.length := ⟨_, rfl⟩
      have hIb : I ≤ 1000 := by have := Hsz.out; omega
      rw [hp] at c0
      rw [hd] at c1
      rw [← hI] at c2
      have hbE : bE < w.heap.size := World.block_lt_of_cell? w _ c0
      have HE := hide (show ∀ w', Below w.heap.size w w' → w'.cell? ⟨bE, oE + k * 3, none⟩ = some (.int .i64 p) ∧ w'.cell? ⟨bE, oE + k * 3 + 1, none⟩ = some (.int .i64 d) ∧ w'.cell? ⟨bE, oE + k * 3 + 2, none⟩ = some (.slice Ae I ce) from fun w' hb => ⟨cell_keep hb c0, cell_keep hb c1, cell_keep hb c2⟩)
      clear c0 c1 c2
      have Hke := hide hke
      have Hdk := hide hdk
      have HfL := hide hfL
      have Hp := hide hp
      have Hd := hide hd
      have HI := hide hI
      have Hve := hide hve
      clear hkL hfL hins hdk hbd hp hd hI hke hve
      go_upto_region 10 with fail
      refine part10 (hB := by kernel_rfl) (hE := HE.out) (hs' := Hs'.out) (hN := HN.out) (hna := HA.out) (hr := Hr.out) (hke := Hke.out) (hdk := Hdk.out) (hp := Hp.out) (hn := hn) (hl := hl) (hlt := hlt) (hr1 := hr1) (hpn := hpn) (_hzn := hzn) (_hmore := hmore) (hb := Hb.out) (hst := Hst.out) (hK := ?_) _ _ _ _ _ _ _ _ _ _ _ _ _ _ _ _ _ _ _ _ _ _ _ _ _ _ _ _ _ _ _ _ _ _ _ _ _ _ _ _ _ _ _ _ _ _ _ _ _ _ _ _ _ _ _ _ _ _ _ _ _ _ _ _ _ _ _ _ _ _ _ _ _ _ _ _ _ _ _ _ _ _ _ _ _ _ _ _ _ _ _ _ _ _ _ _ _ _ _ _ _ _ _ _ _ _ _ _ _ _ _ _ _ _ _ _ _ _ _ _ _ _ _ _ _ _ _ _ _ _ _ _ _ _ _ _ _ _ _ _ _ _ _ _ _ _ _ _ _ _ _ _ _ _ _ _ _ _ _ _ _ _ _ _ _ _ _ _ _ _ _ _ _ _ _ _ _ _ _ _ _ _ _ _ _ _ _ _ _ _ _ _ _ _ _ _ _ _ _ _ _ _ _ _ _ _ _ _ _ _ _ _ _ _ _ _ _ _ _ _ _ _ _ _ _ _
      intro u13 u40 u41 u42 u43 u44 u45 u46 u47 u48 u49 u50 u51 u52 u53 u54 u55 u56 u57 u58 u59 u60 u61 u62 u63 u64 u65 wc hR
      obtain ⟨fs, rfl, hfs, hb⟩ := hR
      have Hfs := hide hfs
      have Hb := hide hb
      clear hfs hb Hst
      go_upto_if 66 with fail
      refine part66 (hB := by kernel_rfl) (hE := HE.out) (hs' := Hs'.out) (hN := HN.out) (hna := HA.out) (hr := Hr.out) (hke := Hke.out) (hdk := Hdk.out) (hp := Hp.out) (hn := hn) (hl := hl) (hlt := hlt) (hr1 := hr1) (hpn := hpn) (_hzn := hzn) (hmore := hmore) (hb := Hb.out) (hfs := Hfs.out) (hK := ?_) _ _ _ _ _ _ _ _ _ _ _ _ _ _ _ _ _ _ _ _ _ _ _ _ _ _ _ _ _ _ _ _ _ _ _ _ _ _ _ _ _ _ _ _ _ _ _ _ _ _ _ _ _ _ _ _ _ _ _ _ _ _ _ _ _ _ _ _ _ _ _ _ _ _ _ _ _ _ _ _ _ _ _ _ _ _ _ _ _ _ _ _ _ _ _ _ _ _ _ _ _ _ _ _ _ _ _ _ _ _ _ _ _ _ _ _ _ _ _ _ _ _ _ _ _ _ _ _ _ _ _ _ _ _ _ _ _ _ _ _ _ _ _ _ _ _ _ _ _ _ _ _ _ _ _ _ _ _ _ _ _ _ _ _ _ _ _ _ _ _ _ _ _ _ _ _ _ _ _ _ _ _ _ _ _ _ _ _ _ _ _ _ _ _ _ _ _ _ _ _ _ _ _ _ _ _ _ _ _ _ _ _ _ _ _ _ _ _ _ _ _ _
      intro u9 u10 u14 u67 u68 u69 u70 u71 u72 u73 u74 u75 u76 u77 u78 u79 u80 u81 u82 u83 wc hR
      obtain ⟨z', rfl, hmid, hb⟩ := hR
      obtain ⟨go, cap, V, e, vi, G, z0, m0, rfl, hg1, hgr, hVk, hzf, hll⟩ := hmid
      obtain ⟨Av, nl, cv, hvi⟩ := owt_form hg1.op.own
      subst hvi
      have Hg1 := hide hg1
      have Hgr := hide hgr
      have Hb := hide hb
      clear hg1 hgr hb Hfs
      obtain ⟨nv, hnv⟩ : ∃ nv, nv = V.length := ⟨_, rfl⟩
      have hcap : nv + 1 ≤ cap := by have := Hg1.out.op.out.lt.2.2; omega
      have hnvk : nv ≤ k := by omega
      have d0 := (Hg1.out.op.out.cell hnv 0 (by omega)).1
      have d1 := (Hg1.out.op.out.cell hnv 1 (by omega)).1
      have d2 := (Hg1.out.op.out.cell hnv 2 (by omega)).1
      have d3 := (Hg1.out.op.out.cell hnv 3 (by omega)).1
      have d4 := (Hg1.out.op.out.cell hnv 4 (by omega)).1
      simp only [hkC, List.getElem?_cons_succ, List.getElem?_cons_zero, Nat.add_zero] at d0 d1 d2 d3 d4
      obtain ⟨M, hM⟩ : ∃ M, M = nv + 1 := ⟨_, rfl⟩
      have hwM : IntKind.i64.wrap ((M : Int) - 1) = (nv : Int) := by rw [IntWalk.i64_in _ (by omega)]; omega
      have hnM : nv < M := by omega
      have hMc : M ≤ cap := by omega
      rw [← hnv, ← hM]
      have Hnv := hide hnv
      have HM := hide hM
      have Hll := hide hll
      have Hzf := hide hzf
      have hzp : z' ≤ p := by have := Hp.out; omega
      clear hnv hM hcap hVk hll hzf
      go_upto_block 2 with fail
      obtain ⟨wm, hwm⟩ : ∃ wm, wm = wc.alloc (.cells #[.int .i64 e.a, .int .i64 e.an, .int .i64 e.b, .int .i64 e.bn, .slice Av nl cv] tH) := ⟨_, rfl⟩
      have hmk : MK w wm w.heap.size go cap V e (.slice Av nl cv) wc.heap.size (.int .i64 e.a) (.int .i64 e.an) (.int .i64 e.b) (.int .i64 e.bn) (.slice Av nl cv) (e.lines) := by
        rw [hwm]
        exact ⟨Hg1.out.op.out.keep ((Below.refl _ wc).alloc (Nat.le_refl _) _), Row.fresh wc tH _, Hg1.out.op.own.alloc _, Hg1.out.op.apart, Nat.ne_of_lt Hg1.out.op.out.lt.2.1, Hb.out.alloc Hb.out.size _, Hb.out.size⟩
      rw [← hwm]
      obtain ⟨gh, hgh⟩ : ∃ gh, gh = wc.heap.size := ⟨_, rfl⟩
      rw [← hgh] at hmk ⊢
      have HM0 := hide hmk
      clear hwm hmk hgh d0 d1 d2 d3 d4
      refine loop2 (L0 := e.lines) (_q := 0) (hs := Hs.out) (hna := HA.out) (hn := hn) (hxa := HxA.out) (hE := HE.out) (_hbE := hbE) (hlt := hlt) (_hN20 := hl) (hB := by kernel_rfl) (hl0 := by have := Hll.out; omega) (hmk := HM0.out) (hzp := hzp) (hpn := hpn) (hK := ?_) _ _ _ _ _ _ _ _ _ _ _ _ _ _ _ _ _ _ _ _ _ _ _ _ _ _ _ _ _ _ _ _ _ _ _ _ _ _ _ _ _ _ _ _ _ _ _ _ _ _ _ _ _ _ _ _ _ _ _ _ _ _ _ _ _ _ _ _ _ _ _ _ _ _ _ _ _ _ _ _ _ _ _ _ _ _ _ _ _ _ _ _ _ _ _ _ _ _ _ _ _ _ _ _ _ _ _ _ _ _ _ _ _ _ _ _ _ _ _ _ _ _ _ _ _ _ _ _ _ _ _ _ _ _ _ _ _ _ _ _ _ _ _ _ _ _ _ _ _ _ _ _ _ _ _ _ _ _ _ _ _ _ _ _ _ _ _ _ _ _ _ _ _ _ _ _ _ _ _ _ _ _ _ _ _ _ _ _ _ _ _ _ _ _ _ _ _ _ _ _ _ _ _ _ _ _ _ _ _ _ _ _ _ _ _ _ _ _ _ _ _ _ _ _
      intro u10 u90 u91 u92 u93 u94 u95 u96 u97 u98 u99 u100 u101 u102 u103 u104 u105 u106 u107 u108 wc hR
      obtain ⟨v1, rfl, hmk⟩ := hR
      obtain ⟨L2, hL2⟩ : ∃ L2, L2 = e.lines ++ mk 32 ((a.drop z').take (p - z')) := ⟨_, rfl⟩
      rw [← hL2] at hmk
      have hl2 : L2.length ≤ 1100 * k + 24 := by
        rw [hL2, List.length_append, mk_len, List.length_take, List.length_drop]
        have h1 := Hll.out; have h2 := HA.out; omega
      have HM2 := hide hmk
      have HL2 := hide hL2
      have Hl2 := hide hl2
      clear hmk hL2 hl2 HM0 hwM hnM hMc
      go_upto_block 4 with fail
      refine loop3 (L0 := L2) (_q := 0) (hs := Hs.out) (hna := HA.out) (hn := hn) (hxa := HxA.out) (hE := HE.out) (_hbE := hbE) (hlt := hlt) (_hN20 := hl) (hB := by kernel_rfl) (hl0 := by have := Hl2.out; omega) (hmk := HM2.out) (hpn := hpn) (hdn := hdn) (hpd := hpd) (hK := ?_) _ _ _ _ _ _ _ _ _ _ _ _ _ _ _ _ _ _ _ _ _ _ _ _ _ _ _ _ _ _ _ _ _ _ _ _ _ _ _ _ _ _ _ _ _ _ _ _ _ _ _ _ _ _ _ _ _ _ _ _ _ _ _ _ _ _ _ _ _ _ _ _ _ _ _ _ _ _ _ _ _ _ _ _ _ _ _ _ _ _ _ _ _ _ _ _ _ _ _ _ _ _ _ _ _ _ _ _ _ _ _ _ _ _ _ _ _ _ _ _ _ _ _ _ _ _ _ _ _ _ _ _ _ _ _ _ _ _ _ _ _ _ _ _ _ _ _ _ _ _ _ _ _ _ _ _ _ _ _ _ _ _ _ _ _ _ _ _ _ _ _ _ _ _ _ _ _ _ _ _ _ _ _ _ _ _ _ _ _ _ _ _ _ _ _ _ _ _ _ _ _ _ _ _ _ _ _ _ _ _ _ _ _ _ _ _ _ _ _ _ _ _ _
      intro u10 u16 u109 u110 u111 u112 u113 u114 u115 u116 u117 u118 u119 u120 u121 u122 u123 u124 u125 u126 u127 u128 u129 wc hR
      obtain ⟨q, v2, ⟨hq1, hq2⟩, rfl, hmk⟩ := hR
      obtain ⟨L3, hL3⟩ : ∃ L3, L3 = L2 ++ mk 45 ((a.drop p).take d) := ⟨_, rfl⟩
      rw [← hL3] at hmk
      have hl3 : L3.length ≤ 1100 * k + 48 := by
        rw [hL3, List.length_append, mk_len, List.length_take, List.length_drop]
        have h1 := Hl2.out; have h2 := HA.out; omega
      have HM3 := hide hmk
      have HL3 := hide hL3
      have Hl3 := hide hl3
      clear hmk hL3 hl3 HM2
      go_upto_block 6 with fail
      refine loop4 (L0 := L3) (_q := 0) (hs := Hs.out) (hna := HA.out) (_hn := hn) (hxa := HxA.out) (hE := HE.out) (hbE := hbE) (hlt := hlt) (_hN20 := hl) (hB := by kernel_rfl) (hl0 := by have := Hl3.out; omega) (hmk := HM3.out) (hve := Hve.out) (hI := HI.out) (hIb := hIb) (hxe := HxE.out) (hfL := HfL.out) (hK := ?_) _ _ _ _ _ _ _ _ _ _ _ _ _ _ _ _ _ _ _ _ _ _ _ _ _ _ _ _ _ _ _ _ _ _ _ _ _ _ _ _ _ _ _ _ _ _ _ _ _ _ _ _ _ _ _ _ _ _ _ _ _ _ _ _ _ _ _ _ _ _ _ _ _ _ _ _ _ _ _ _ _ _ _ _ _ _ _ _ _ _ _ _ _ _ _ _ _ _ _ _ _ _ _ _ _ _ _ _ _ _ _ _ _ _ _ _ _ _ _ _ _ _ _ _ _ _ _ _ _ _ _ _ _ _ _ _ _ _ _ _ _ _ _ _ _ _ _ _ _ _ _ _ _ _ _ _ _ _ _ _ _ _ _ _ _ _ _ _ _ _ _ _ _ _ _ _ _ _ _ _ _ _ _ _ _ _ _ _ _ _ _ _ _ _ _ _ _ _ _ _ _ _ _ _ _ _ _ _ _ _ _ _ _ _ _ _ _ _ _ _ _ _ _ _
      intro u17 u130 u131 u132 u133 u134 u135 u136 u137 u138 u139 u140 u141 u142 u143 u144 u145 u146 u147 u148 u149 u150 u151 u152 u153 wc hR
      obtain ⟨v3, hmk⟩ := hR
      have hL4 : L3 ++ mk 43 f.ins = body a z0 (G ++ [f]) := by
        rw [body_snoc, HL3.out, HL2.out, Hg1.out.lines, ← Hg1.out.fin, Hp.out, Hd.out]
        simp only [Int.toNat_natCast, List.append_assoc]
      obtain ⟨L4, hL4'⟩ : ∃ L4, L4 = body a z0 (G ++ [f]) := ⟨_, rfl⟩
      have hl4 : L4.length ≤ 1100 * k + 1048 := by
        rw [hL4', ← hL4, List.length_append, mk_len]
        have h1 := Hl3.out; have h2 := HI.out; omega
      rw [hL4, ← hL4'] at hmk
      have HM4 := hide hmk
      have HL4 := hide hL4'
      have Hl4 := hide hl4
      clear hmk hL4 hL4' hl4 HM3 HL2 HL3 Hl2 Hl3 Hll
      obtain ⟨c0, c1, c2⟩ := HE.out _ HM4.out.low
      obtain ⟨N1, hN1⟩ : ∃ N1, N1 = N - 1 := ⟨_, rfl⟩
      have hwN : IntKind.i64.wrap ((N : Int) - 1) = (N1 : Int) := by rw [IntWalk.i64_in _ (by omega)]; omega
      have HN1 := hide hN1
      clear hN1
      go_wp2
      go_quiet (fail)
      go_upto_if 174 with fail
      have HM4n := hide (HM4.out.more (below_drewN (Below.refl _ _) nq))
      refine part174 (hB := by kernel_rfl) (hE := HE.out) (hs' := Hs'.out) (hN := HN.out) (hna := HA.out) (hr := Hr.out) (hke := Hke.out) (hdk := Hdk.out) (hp := Hp.out) (hn := hn) (hl := hl) (hlt := hlt) (hr1 := hr1) (_hpn := hpn) (_hzn := hzn) (_T := T) (hqn := by omega) (hmk := HM4n.out) (hN1 := HN1.out) (hb18 := rfl) (hb174 := rfl) (hK := ?_) _ _ _ _ _ _ _ _ _ _ _ _ _ _ _ _ _ _ _ _ _ _ _ _ _ _ _ _ _ _ _ _ _ _ _ _ _ _ _ _ _ _ _ _ _ _ _ _ _ _ _ _ _ _ _ _ _ _ _ _ _ _ _ _ _ _ _ _ _ _ _ _ _ _ _ _ _ _ _ _ _ _ _ _ _ _ _ _ _ _ _ _ _ _ _ _ _ _ _ _ _ _ _ _ _ _ _ _ _ _ _ _ _ _ _ _ _ _ _ _ _ _ _ _ _ _ _ _ _ _ _ _ _ _ _ _ _ _ _ _ _ _ _ _ _ _ _ _ _ _ _ _ _ _ _ _ _ _ _ _ _ _ _ _ _ _ _ _ _ _ _ _ _ _ _ _ _ _ _ _ _ _ _ _ _ _ _ _ _ _ _ _ _ _ _ _ _ _ _ _ _ _ _ _ _ _ _ _ _ _ _ _ _ _ _ _ _ _ _ _ _ _ _
      intro u18 u175 u176 u177 u178 u179 u180 u181 u182 u183 u184 u185 wc hR
      obtain ⟨ls, rfl, hls, hmk⟩ := hR
      have Hls := hide hls
      have HM5 := hide hmk
      clear hls hmk HM4 HM4n c0 c1 c2
      go_upto_block 8 with fail
      refine loop5 (L0 := L4) (hs := Hs.out) (hna := HA.out) (hn := hn) (hxa := HxA.out) (hE := HE.out) (_hbE := hbE) (_hlt := hlt) (_hN20 := hl) (hB := by kernel_rfl) (hl0 := by have := Hl4.out; omega) (hmk := HM5.out) (hr1 := hr1) (hqn := by omega) (hK := ?_) _ _ _ _ _ _ _ _ _ _ _ _ _ _ _ _ _ _ _ _ _ _ _ _ _ _ _ _ _ _ _ _ _ _ _ _ _ _ _ _ _ _ _ _ _ _ _ _ _ _ _ _ _ _ _ _ _ _ _ _ _ _ _ _ _ _ _ _ _ _ _ _ _ _ _ _ _ _ _ _ _ _ _ _ _ _ _ _ _ _ _ _ _ _ _ _ _ _ _ _ _ _ _ _ _ _ _ _ _ _ _ _ _ _ _ _ _ _ _ _ _ _ _ _ _ _ _ _ _ _ _ _ _ _ _ _ _ _ _ _ _ _ _ _ _ _ _ _ _ _ _ _ _ _ _ _ _ _ _ _ _ _ _ _ _ _ _ _ _ _ _ _ _ _ _ _ _ _ _ _ _ _ _ _ _ _ _ _ _ _ _ _ _ _ _ _ _ _ _ _ _ _ _ _ _ _ _ _ _ _ _ _ _ _ _ _ _ _ _ _ _
      intro u10 u19 u186 u187 u188 u189 u190 u191 u192 u193 u194 u195 u196 u197 u198 u199 u200 u201 u202 u203 u204 u205 u206 u207 u208 u209 u210 u211 wc hR
      obtain ⟨j5, v5, rfl, hj5, hjq, hmk⟩ := hR
      obtain ⟨L5, hL5⟩ : ∃ L5, L5 = L4 ++ (if ls then mk 32 ((a.drop q).take r) else []) := ⟨_, rfl⟩
      rw [← hL5] at hmk
      have hl5 : L5.length ≤ 1000000 := by
        rw [hL5, List.length_append]
        have h1 := Hl4.out
        cases ls
        · simp; omega
        · rw [if_pos rfl, mk_len, List.length_take, List.length_drop]
          have h2 := HA.out
          omega
      obtain ⟨A6, n6, c6, rfl⟩ := owt_form hmk.own
      obtain ⟨x1, hx1⟩ : ∃ x1, x1 = many 45 L5 := ⟨_, rfl⟩
      obtain ⟨x3, hx3⟩ : ∃ x3, x3 = many 43 L5 := ⟨_, rfl⟩
      have HC1 := hide (many_own 45 (by decide) hmk.own hl5)
      have HC1 := hide (show Calls Try.prog 32 #[.slice A6 n6 c6, .int .u8 45] wc fun y w' => y = .returned (.int .i64 (x1 : Int)) ∧ w' = wc from by rw [hx1]; exact HC1.out)
      have hmk1 := (hmk.num1 (.int .i64 (x1 : Int)))
      have HC3 := hide (many_own 43 (by decide) hmk1.own hl5)
      have HC3 := hide (show Calls Try.prog 32 #[.slice A6 n6 c6, .int .u8 43] (wc.setCell ⟨gh, 1, none⟩ (.int .i64 (x1 : Int))) fun y w' => y = .returned (.int .i64 (x3 : Int)) ∧ w' = wc.setCell ⟨gh, 1, none⟩ (.int .i64 (x1 : Int)) from by rw [hx3]; exact HC3.out)
      have hmk3 := (hmk1.num3 (.int .i64 (x3 : Int)))
      have d4 := hmk.cells.2.2.2.2
      have d1 := hmk.cells.2.1
      have g1 := hmk.row.free 1
      have Hmk1 := hide hmk1
      have Hmk3 := hide hmk3
      have HL5 := hide hL5
      have Hx1 := hide hx1
      have Hx3 := hide hx3
      have Hjq := hide hjq
      clear hmk hmk1 hmk3 hL5 hl5 hx1 hx3 hjq
      go_wp2_with fail
      refine HC1.out.mono ?_
      rintro y w6 ⟨rfl, rfl⟩
      have e4 := Hmk1.out.cells.2.2.2.2
      have e3 := Hmk1.out.cells.2.2.2.1
      have g3 := Hmk1.out.row.free 3
      go_wp2_with fail
      refine HC3.out.mono ?_
      rintro y w7 ⟨rfl, hw7⟩
      subst hw7
      clear d1 d4 g1
      have f0 := Hmk3.out.cells.1
      have f1 := Hmk3.out.cells.2.1
      have f2 := Hmk3.out.cells.2.2.1
      have f3 := Hmk3.out.cells.2.2.2.1
      have f4 := Hmk3.out.cells.2.2.2.2
      have hMc : M ≤ cap := by have h1 := Hmk3.out.out.lt.2.2; have h2 := HM.out; have h3 := Hnv.out; omega
      have hnM : nv < M := by have h2 := HM.out; omega
      have hwM : IntKind.i64.wrap ((M : Int) - 1) = (nv : Int) := by have h2 := HM.out; rw [IntWalk.i64_in _ (by omega)]; omega
      obtain ⟨o0, b0⟩ := Hmk3.out.out.cell Hnv.out 0 (by omega)
      obtain ⟨o1, b1⟩ := Hmk3.out.out.cell Hnv.out 1 (by omega)
      obtain ⟨o2, b2⟩ := Hmk3.out.out.cell Hnv.out 2 (by omega)
      obtain ⟨o3, b3⟩ := Hmk3.out.out.cell Hnv.out 3 (by omega)
      obtain ⟨o4, b4⟩ := Hmk3.out.out.cell Hnv.out 4 (by omega)
      simp only [hkC, List.getElem?_cons_succ, List.getElem?_cons_zero, Nat.add_zero] at o0 o1 o2 o3 o4 b0 b1 b2 b3 b4
      go_upto_region 39 with fail
      obtain ⟨w8, hw8⟩ : ∃ w8, w8 = (w6.setCell ⟨gh, 1, none⟩ (.int .i64 (x1 : Int))).setCell ⟨gh, 3, none⟩ (.int .i64 (x3 : Int)) := ⟨_, rfl⟩
      rw [← hw8] at f0 f1 f2 f3 f4 o0 o1 o2 o3 o4 b0 b1 b2 b3 b4 Hmk3 ⊢
      have Hfill := hide (Hmk3.out.out.fill Hnv.out ⟨e.a, x1, e.b, x3, L5⟩ (.slice A6 n6 c6))
      clear hw8 e3 e4 g3 Hmk1 HC1 HC3
      go_wp2
      obtain ⟨hfill, hoff⟩ := Hfill.out
      have hown := hoff _ _ Hmk3.out.own
      have hgB := Hmk3.out.out.lt.1
      have hlow : Below w.heap.size w (((((w8.setCell ⟨go, nv * 5, none⟩ (.int .i64 e.a)).setCell ⟨go, nv * 5 + 1, none⟩ (.int .i64 (x1 : Int))).setCell ⟨go, nv * 5 + 2, none⟩ (.int .i64 e.b)).setCell ⟨go, nv * 5 + 3, none⟩ (.int .i64 (x3 : Int))).setCell ⟨go, nv * 5 + 4, none⟩ (.slice A6 n6 c6)) :=
        ((((Hmk3.out.low.setCell (p := ⟨go, nv * 5, none⟩) hgB _).setCell (p := ⟨go, nv * 5 + 1, none⟩) hgB _).setCell (p := ⟨go, nv * 5 + 2, none⟩) hgB _).setCell (p := ⟨go, nv * 5 + 3, none⟩) hgB _).setCell (p := ⟨go, nv * 5 + 4, none⟩) hgB _
      have hMV : M = V.length + 1 := by rw [HM.out, Hnv.out]
      have hVk : V.length ≤ k := by have := Hnv.out; omega
      have hg := Hg1.out
      have hgl : G ++ f :: L.drop (k + 1) = (G ++ [f]) ++ L.drop (k + 1) := by simp
      have hrt : right a.length (-1) ((G ++ [f]) ++ L.drop (k + 1)) = true := by rw [← hgl]; exact hg.right
      have hend : endB z0 (G ++ [f]) = q := by rw [endB_snoc, Hp.out, Hd.out]; simp only [Int.toNat_natCast]; omega
      have hmo : more + (I : Int) - d = m0 + delta (G ++ [f]) := by
        rw [delta_append, ← Int.add_assoc, ← hg.more]
        simp only [delta, Hd.out, HI.out]
        omega
      have htot : V.map (·.1) ++ mkHs a r m0 ((G ++ [f]) ++ L.drop (k + 1)) = T := by rw [← hgl]; exact hg.tot
      have hfk : ∀ e', L[k]? = some e' → Hu.fin e' = q := fun e' he' => by
        have h1 := Hke.out
        rw [h1] at he'
        injection he' with he'
        rw [← he', Hu.fin, Hp.out, Hd.out]
        omega
      have hdr : ∀ f' t, L.drop (k + 1) = f' :: t → L[k + 1]? = some f' := fun f' t h => by
        have h1 := congrArg (fun l => l[0]?) h
        simpa using h1
      have hI2 := HI.out
      have hlsr := Hls.out
      have hl5 := HL5.out
      have hl4 := HL4.out
      have hl4b := Hl4.out
      have hx1 := Hx1.out
      have hx3 := Hx3.out
      have hgr := Hgr.out
      have hgoo := Hmk3.out.apart
      clear Hmk3 Hfill HL5 HL4 Hl4 Hls
      refine ⟨⟨k + 1, j5, more + I - d, _, rfl, by omega, by go_num, rfl, rfl, by omega, hj5, ?_, hlow⟩, by simp [intOf]; omega⟩
      rcases hlsr with ⟨hls, hfar⟩ | ⟨hls, hk1, hnear⟩
      · left
        rw [hls, if_pos rfl, hl4, ← hend] at hl5
        have hcl := Gr.close hgr m0 (L.drop (k + 1)) (right_fst hrt) (fun f' t h => by rw [hend]; exact hfar f' (hdr f' t h)) L5 hl5
        refine ⟨V.map (·.1) ++ [⟨e.a, x1, e.b, x3, L5⟩], by rw [hMV]; exact hfill.shut hown, ?_, by simp; omega, right_tail hrt, fun e' f' _ h1 h2 => by rw [hfk e' (by simpa using h1)]; exact hfar f' h2⟩
        rw [← htot, hcl, hmo, hx1, hx3, hg.num.1, hg.num.2]
        simp
      · right
        have h0 : L5 = L4 := by rw [hl5, hls]; simp
        have hjq2 := Hjq.out hls
        refine ⟨by omega, by have := HN.out; omega, go, cap, V, ⟨e.a, x1, e.b, x3, L5⟩, .slice A6 n6 c6, G ++ [f], z0, m0, by rw [hMV], ⟨⟨hfill, hown, hgoo⟩, hg.num, ?_, htot, hrt, by rw [hend]; omega, hmo⟩, hgr, by omega, ?_, fun e' f' h1 h2 => ?_⟩
        · show L5 = _
          rw [h0, hl4]
        · show L5.length ≤ _
          rw [h0]; omega
        · have h3 := hfk e' (by simpa using h1)
          have h4 := hnear f' h2
          rw [h3]
          exact ⟨by omega, h4⟩
    · have hfin : OwH wr w.heap.size v T := by
        rcases Hst.out with hst | hst
        · obtain ⟨done, hown, htot, _, _, _⟩ := hst
          rw [List.drop_of_length_le (by have := HN.out; omega)] at htot
          have h1 : done = T := by simpa [mkHs] using htot
          rwa [h1] at hown
        · have h1 := hst.2.1
          have h2 := HN.out
          omega
      have Hfin := hide hfin
      clear hfin Hst
      go_wp2
      go_ret2
      exact ⟨v, rfl, Hfin.out, Hb.out⟩
end Go.Proofs.Ytfmmececocilhaa.Hu
