/-
  The reference's Lines: region by region.
-/
import Derived.BigQuiet
import Derived.Test.YtghnieddokhagaaQMK
import Derived.Test.YtghnieddokhagaaJ7
namespace Go.Proofs.Ytghnieddokhagaa.Al
open Go Go.RowKit Kt Kg Lw Li Df Kf

set_option maxRecDepth 100000 in
set_option maxHeartbeats 8000000 in
theorem rlines_any {w : World} {Ao Aa Ab : Option Addr} {co ca cb : Nat} {o a b : Ls} (ht : Trio w Ao Aa Ab co ca cb o a b) (hsm : o.length ≤ 700 ∧ a.length ≤ 700 ∧ b.length ≤ 700) (fo : Fit o) (fa : Fit a) (fb : Fit b) :
    Calls Try.prog 35 #[.slice Ao o.length co, .slice Aa a.length ca, .slice Ab b.length cb] w fun y w' => ∃ v, y = .returned (.tuple #[v, .int .i64 (mgN o a b : Nat)]) ∧ OwT w' w.heap.size 9 v (mgL o a b) ∧ Below w.heap.size w w' := by
  have HR := hide (refRegions_any ht hsm)
  have Ht := hide ht
  have Hf := hide (show Fit o ∧ Fit a ∧ Fit b from ⟨fo, fa, fb⟩)
  have Hsm := hide hsm
  obtain ⟨no, hno⟩ : ∃ z, z = o.length := ⟨_, rfl⟩
  obtain ⟨na, hna⟩ : ∃ z, z = a.length := ⟨_, rfl⟩
  obtain ⟨nb, hnb⟩ : ∃ z, z = b.length := ⟨_, rfl⟩
  rw [← hno, ← hna, ← hnb] at HR ⊢
  have Hno := hide hno
  have Hna := hide hna
  have Hnb := hide hnb
  clear ht hsm fo fa fb hno hna hnb
  go_enter Try.func35, Try.ntmps35
  go_wp2_with fail
  refine HR.out.mono ?_
  rintro y w3 ⟨vR, rfl, hownR, hb3⟩
  obtain ⟨AR, cR, rfl, hrgs⟩ := hownR.rgs
  have Hrgs := hide hrgs
  have Hb3 := hide hb3
  have Ht3 := hide (Ht.out.keep hb3)
  have hcnt := regs_count o a b
  have hSp := Spn.regs o a b
  have hLn := fun k => mg_lens Ht.out.lo_ Ht.out.la_ Ht.out.lb_ k
  have HL := hide (show mgL o a b = mgF o a b (regs o a b) from rfl)
  have HN := hide (show mgN o a b = mgC (regs o a b) from rfl)
  have hlen : (regs o a b).length ≤ 2100 := by have := Hsm.out; omega
  generalize regs o a b = L at *
  obtain ⟨N, hN⟩ : ∃ N, N = L.length := ⟨_, rfl⟩
  rw [← hN] at hlen ⊢
  have HNL := hide hN
  have HSp := hide hSp
  have HLn := hide hLn
  have Hlen := hide hlen
  clear hownR hrgs hb3 hcnt hSp hLn hN HR hlen
  go_wp2_with fail
  go_loopw [8, 9, 11] (fun s n i wr => ∃ (k : Nat) (v0 : Value), v0 = s ∧ k ≤ N ∧ i = .int .i64 k ∧ n = .int .i64 (mgC (L.take k) : Nat) ∧ OwT wr w3.heap.size 9 v0 (mgF o a b (L.take k)) ∧ Below w3.heap.size w3 wr) (fun _ _ i _ => N - (intOf i).toNat)
  case atStart => exact ⟨0, _, rfl, Nat.zero_le _, rfl, rfl, OwT.nil _ _ _, Below.refl _ _⟩
  case round =>
    obtain ⟨k, v, rfl, hk, rfl, rfl, hown, hb⟩ := hrel
    have Hown := hide hown
    have Hb := hide hb
    clear hown hb
    by_cases hlt : k < N
    · obtain ⟨b0, o0, r, rfl, hbl, hLk, hdrop, d0, d1, d2, d3, d4, d5, d6⟩ := Hrgs.out.at (w' := wr) Hb.out (k := k) (by have := HNL.out; omega)
      obtain ⟨x0, m0, x1, m1, x2, m2, sp⟩ := HSp.out r (List.mem_of_getElem? hLk)
      have Hsn := hide (take_snocR L k r hLk)
      have hmc := mgC_le (L.take k)
      have hmk : (L.take k).length ≤ 2100 := by have := Hlen.out; have := HNL.out; rw [List.length_take]; omega
      have Hl1 := hide (HLn.out k)
      have Hl2 := hide (HLn.out (k + 1))
      rw [Hsn.out, mgF_snoc, List.length_append] at Hl2
      have HF := hide (show mgF o a b (L.take (k + 1)) = mgF o a b (L.take k) ++ mgR o a b r by rw [Hsn.out, mgF_snoc])
      have HC := hide (show mgC (L.take (k + 1)) = mgC (L.take k) + (if r.kind = 4 then 1 else 0) by rw [Hsn.out, mgC_snoc])
      rw [sp.o0] at d1
      rw [sp.on] at d2
      rw [sp.a0] at d3
      rw [sp.an] at d4
      rw [sp.b0] at d5
      rw [sp.bn] at d6
      have hRm : mgR o a b r = if r.kind = 4 then mgX (cut o x0 m0) (cut a x1 m1) (cut b x2 m2) else if r.kind = 2 then cut b x2 m2 else cut a x1 m1 := by
        unfold mgR; rw [sp.o0, sp.on, sp.a0, sp.an, sp.b0, sp.bn]
      have hsp := And.intro sp.oo (And.intro sp.aa sp.bb)
      obtain ⟨T, hT⟩ : ∃ T, T = mgR o a b r := ⟨_, rfl⟩
      obtain ⟨kd, hkd⟩ : ∃ kd, kd = r.kind := ⟨_, rfl⟩
      rw [← hT] at HF hRm Hl2
      rw [← hkd] at hRm d0 HC
      generalize mgF o a b (L.take k) = F at *
      obtain ⟨cc, hcc⟩ : ∃ z, z = mgC (L.take k) := ⟨_, rfl⟩
      rw [← hcc] at hmc HC ⊢
      have hcc3 : cc ≤ 2100 := by omega
      have Hcc := hide hcc
      have Hsp := hide hsp
      clear hsp hT hkd hcc hmc hmk hLk hdrop hbl sp
      obtain ⟨q, hq⟩ : ∃ q, q = wr.heap.size := ⟨_, rfl⟩
      obtain ⟨w5, hw5⟩ : ∃ w5, w5 = wr.alloc (.cells #[.int .i64 kd, .int .i64 x0, .int .i64 m0, .int .i64 x1, .int .i64 m1, .int .i64 x2, .int .i64 m2] tR) := ⟨_, rfl⟩
      have hb5 : Below wr.heap.size wr w5 := by rw [hw5]; exact (Below.refl _ wr).alloc (Nat.le_refl _) _
      have hrow5 : Row w5 q tR [.int .i64 kd, .int .i64 x0, .int .i64 m0, .int .i64 x1, .int .i64 m1, .int .i64 x2, .int .i64 m2] := by rw [hw5, hq]; exact Row.fresh wr tR _
      have H0 := hide (show RL w3 w3.heap.size q [.int .i64 kd, .int .i64 x0, .int .i64 m0, .int .i64 x1, .int .i64 m1, .int .i64 x2, .int .i64 m2] v F w5 from ⟨Hown.out.kept hb5, Hb.out.trans (hb5.mono Hb.out.size), hrow5⟩)
      have e0 := hrow5.cell 0
      have e3 := hrow5.cell 3
      have e4 := hrow5.cell 4
      have e5 := hrow5.cell 5
      have e6 := hrow5.cell 6
      simp only [List.getElem?_cons_zero, List.getElem?_cons_succ] at e0 e3 e4 e5 e6
      have Hw5 := hide hw5
      have Hq := hide hq
      have hN3 : N ≤ 2100 := Hlen.out
      clear hb5 hrow5 hw5 hq
      by_cases h4 : kd = 4
      · rw [if_pos h4] at hRm HC
        subst h4
        have HRm := hide hRm
        have Hln := hide (show o.length ≤ 1000 ∧ a.length ≤ 1000 ∧ b.length ≤ 1000 from ⟨Ht.out.lo_, Ht.out.la_, Ht.out.lb_⟩)
        have HlF := hide (show F.length ≤ 10000000 from Hl1.out)
        have lO := cut_len (l := o) (x := x0) (n := m0) rfl rfl Hsp.out.1
        have lA := cut_len (l := a) (x := x1) (n := m1) rfl rfl Hsp.out.2.1
        have lB := cut_len (l := b) (x := x2) (n := m2) rfl rfl Hsp.out.2.2
        have Hlc := hide (And.intro lO (And.intro lA lB))
        have Hms := hide (show m0 ≤ 1000 ∧ m1 ≤ 1000 ∧ m2 ≤ 1000 by have := Hsp.out; have := Hln.out; omega)
        clear hRm lO lA lB
        generalize hB10 : Code.region 10 _ _ = B10
        have HB10 := hide hB10
        clear hB10
        generalize hB2 : Code.block 2 _ = B2
        have HB2 := hide hB2
        clear hB2
        generalize hB15 : Code.region 15 _ _ = B15
        have HB15 := hide hB15
        clear hB15
        generalize hB4 : Code.block 4 _ = B4
        have HB4 := hide hB4
        clear hB4
        generalize hB20 : Code.region 20 _ _ = B20
        have HB20 := hide hB20
        clear hB20
        generalize hB6 : Code.block 6 _ = B6
        have HB6 := hide hB6
        clear hB6
        generalize hB25 : Code.region 25 _ _ = B25
        have HB25 := hide hB25
        clear hB25
        go_wp2_with (first | rw [← Hw5.out, ← Hq.out] | fail)
        clear d0 d1 d2 d3 d4 d5 d6 e0 e3 e4 e5 e6
        rename_i KK hKK
        refine rl_mark10 (w0 := w3) (B0 := w3.heap.size) (q := q) (v := v) (F := F) _ _ _ _ _ _ _ _ _ _ _ _ _ _ _ _ _ _ _ _ _ _ _ _ _ _ _ _ _ _ _ _ _ _ _ _ _ _ _ _ _ _ _ _ _ _ _ _ _ _ _ _ _ _ _ _ _ _ _ _ _ _ _ _ _ _ _ _ _ _ _ _ _ _ _ _ _ _ _ _ _ _ _ _ _ _ _ _ _ _ _ _ _ _ _ _ _ _ _ _ _ _ _ _ _ _ _ _ _ _ _ _ _ _ _ _ _ _ _ _ _ _ _ _ _ _ _ _ _ _ _ _ _ _ _ _ _ _ _ _ (by rw [← HB10.out]; kernel_rfl) H0.out (Nat.le_refl _) (by have h1 := HlF.out; have h2 := Hlc.out; have h3 := Hms.out; (try simp only [List.length_append, List.length_map, List.length_cons, List.length_nil, h2.1, h2.2.1, h2.2.2]); omega) ?_
        intro v1 y1a y1b y1c y1d w1x h1x
        have G1 := hide h1x
        clear h1x
        refine hKK _ _ ?_
        clear hKK KK
        go_wp2_with fail
        rename_i KK hKK
        rw [Hna.out]
        refine rl_side2 (w0 := w3) (B0 := w3.heap.size) (q := q) (x := x1) (m := m1) (l := a) (v := v1) (F := (F ++ [mk7 60])) _ _ _ _ _ _ _ _ _ _ _ _ _ _ _ _ _ _ _ _ _ _ _ _ _ _ _ _ _ _ _ _ _ _ _ _ _ _ _ _ _ _ _ _ _ _ _ _ _ _ _ _ _ _ _ _ _ _ _ _ _ _ _ _ _ _ _ _ _ _ _ _ _ _ _ _ _ _ _ _ _ _ _ _ _ _ _ _ _ _ _ _ _ _ _ _ _ _ _ _ _ _ _ _ _ _ _ _ _ _ _ _ _ _ _ _ _ _ _ _ _ _ _ _ _ _ _ _ _ _ _ _ _ _ _ _ _ (by rw [← HB2.out]; kernel_rfl) G1.out (Nat.le_refl _) (by have h1 := HlF.out; have h2 := Hlc.out; have h3 := Hms.out; (try simp only [List.length_append, List.length_cons, List.length_nil]); omega) Ht3.out.a_ (fun _ h => h) Hsp.out.2.1 Hln.out.2.1 Hf.out.2.1 rfl rfl ?_
        intro v2 z2_0 z2_1 z2_2 z2_3 z2_4 z2_5 z2_6 z2_7 z2_8 z2_9 z2_10 z2_11 z2_12 z2_13 z2_14 z2_15 z2_16 z2_17 z2_18 w2x h2x
        have G2 := hide h2x
        clear h2x
        refine hKK _ _ ?_
        clear hKK KK
        rw [← Hna.out]
        go_wp2_with fail
        rename_i KK hKK
        refine rl_mark15 (w0 := w3) (B0 := w3.heap.size) (q := q) (v := v2) (F := ((F ++ [mk7 60]) ++ (cut a x1 m1).map shut)) _ _ _ _ _ _ _ _ _ _ _ _ _ _ _ _ _ _ _ _ _ _ _ _ _ _ _ _ _ _ _ _ _ _ _ _ _ _ _ _ _ _ _ _ _ _ _ _ _ _ _ _ _ _ _ _ _ _ _ _ _ _ _ _ _ _ _ _ _ _ _ _ _ _ _ _ _ _ _ _ _ _ _ _ _ _ _ _ _ _ _ _ _ _ _ _ _ _ _ _ _ _ _ _ _ _ _ _ _ _ _ _ _ _ _ _ _ _ _ _ _ _ _ _ _ _ _ _ _ _ _ _ _ _ _ _ _ _ _ _ (by rw [← HB15.out]; kernel_rfl) G2.out (Nat.le_refl _) (by have h1 := HlF.out; have h2 := Hlc.out; have h3 := Hms.out; (try simp only [List.length_append, List.length_map, List.length_cons, List.length_nil, h2.2.1]); omega) ?_
        intro v3 y3a y3b y3c y3d w3x h3x
        have G3 := hide h3x
        clear h3x
        refine hKK _ _ ?_
        clear hKK KK
        go_wp2_with fail
        rename_i KK hKK
        rw [Hno.out]
        refine rl_side4 (w0 := w3) (B0 := w3.heap.size) (q := q) (x := x0) (m := m0) (l := o) (v := v3) (F := (((F ++ [mk7 60]) ++ (cut a x1 m1).map shut) ++ [mk7 124])) _ _ _ _ _ _ _ _ _ _ _ _ _ _ _ _ _ _ _ _ _ _ _ _ _ _ _ _ _ _ _ _ _ _ _ _ _ _ _ _ _ _ _ _ _ _ _ _ _ _ _ _ _ _ _ _ _ _ _ _ _ _ _ _ _ _ _ _ _ _ _ _ _ _ _ _ _ _ _ _ _ _ _ _ _ _ _ _ _ _ _ _ _ _ _ _ _ _ _ _ _ _ _ _ _ _ _ _ _ _ _ _ _ _ _ _ _ _ _ _ _ _ _ _ _ _ _ _ _ _ _ _ _ _ _ _ _ (by rw [← HB4.out]; kernel_rfl) G3.out (Nat.le_refl _) (by have h1 := HlF.out; have h2 := Hlc.out; have h3 := Hms.out; (try simp only [List.length_append, List.length_map, List.length_cons, List.length_nil, h2.2.1]); omega) Ht3.out.o_ (fun _ h => h) Hsp.out.1 Hln.out.1 Hf.out.1 rfl rfl ?_
        intro v4 z4_0 z4_1 z4_2 z4_3 z4_4 z4_5 z4_6 z4_7 z4_8 z4_9 z4_10 z4_11 z4_12 z4_13 z4_14 z4_15 z4_16 z4_17 z4_18 w4x h4x
        have G4 := hide h4x
        clear h4x
        refine hKK _ _ ?_
        clear hKK KK
        rw [← Hno.out]
        go_wp2_with fail
        rename_i KK hKK
        refine rl_mark20 (w0 := w3) (B0 := w3.heap.size) (q := q) (v := v4) (F := ((((F ++ [mk7 60]) ++ (cut a x1 m1).map shut) ++ [mk7 124]) ++ (cut o x0 m0).map shut)) _ _ _ _ _ _ _ _ _ _ _ _ _ _ _ _ _ _ _ _ _ _ _ _ _ _ _ _ _ _ _ _ _ _ _ _ _ _ _ _ _ _ _ _ _ _ _ _ _ _ _ _ _ _ _ _ _ _ _ _ _ _ _ _ _ _ _ _ _ _ _ _ _ _ _ _ _ _ _ _ _ _ _ _ _ _ _ _ _ _ _ _ _ _ _ _ _ _ _ _ _ _ _ _ _ _ _ _ _ _ _ _ _ _ _ _ _ _ _ _ _ _ _ _ _ _ _ _ _ _ _ _ _ _ _ _ _ _ _ _ (by rw [← HB20.out]; kernel_rfl) G4.out (Nat.le_refl _) (by have h1 := HlF.out; have h2 := Hlc.out; have h3 := Hms.out; (try simp only [List.length_append, List.length_map, List.length_cons, List.length_nil, h2.1, h2.2.1]); omega) ?_
        intro v5 y5a y5b y5c y5d w5x h5x
        have G5 := hide h5x
        clear h5x
        refine hKK _ _ ?_
        clear hKK KK
        go_wp2_with fail
        rename_i KK hKK
        rw [Hnb.out]
        refine rl_side6 (w0 := w3) (B0 := w3.heap.size) (q := q) (x := x2) (m := m2) (l := b) (v := v5) (F := (((((F ++ [mk7 60]) ++ (cut a x1 m1).map shut) ++ [mk7 124]) ++ (cut o x0 m0).map shut) ++ [mk7 61])) _ _ _ _ _ _ _ _ _ _ _ _ _ _ _ _ _ _ _ _ _ _ _ _ _ _ _ _ _ _ _ _ _ _ _ _ _ _ _ _ _ _ _ _ _ _ _ _ _ _ _ _ _ _ _ _ _ _ _ _ _ _ _ _ _ _ _ _ _ _ _ _ _ _ _ _ _ _ _ _ _ _ _ _ _ _ _ _ _ _ _ _ _ _ _ _ _ _ _ _ _ _ _ _ _ _ _ _ _ _ _ _ _ _ _ _ _ _ _ _ _ _ _ _ _ _ _ _ _ _ _ _ _ _ _ _ _ (by rw [← HB6.out]; kernel_rfl) G5.out (Nat.le_refl _) (by have h1 := HlF.out; have h2 := Hlc.out; have h3 := Hms.out; (try simp only [List.length_append, List.length_map, List.length_cons, List.length_nil, h2.1, h2.2.1]); omega) Ht3.out.b_ (fun _ h => h) Hsp.out.2.2 Hln.out.2.2 Hf.out.2.2 rfl rfl ?_
        intro v6 z6_0 z6_1 z6_2 z6_3 z6_4 z6_5 z6_6 z6_7 z6_8 z6_9 z6_10 z6_11 z6_12 z6_13 z6_14 z6_15 z6_16 z6_17 z6_18 w6x h6x
        have G6 := hide h6x
        clear h6x
        refine hKK _ _ ?_
        clear hKK KK
        rw [← Hnb.out]
        go_wp2_with fail
        rename_i KK hKK
        refine rl_mark25 (w0 := w3) (B0 := w3.heap.size) (q := q) (v := v6) (F := ((((((F ++ [mk7 60]) ++ (cut a x1 m1).map shut) ++ [mk7 124]) ++ (cut o x0 m0).map shut) ++ [mk7 61]) ++ (cut b x2 m2).map shut)) _ _ _ _ _ _ _ _ _ _ _ _ _ _ _ _ _ _ _ _ _ _ _ _ _ _ _ _ _ _ _ _ _ _ _ _ _ _ _ _ _ _ _ _ _ _ _ _ _ _ _ _ _ _ _ _ _ _ _ _ _ _ _ _ _ _ _ _ _ _ _ _ _ _ _ _ _ _ _ _ _ _ _ _ _ _ _ _ _ _ _ _ _ _ _ _ _ _ _ _ _ _ _ _ _ _ _ _ _ _ _ _ _ _ _ _ _ _ _ _ _ _ _ _ _ _ _ _ _ _ _ _ _ _ _ _ _ _ _ _ (by rw [← HB25.out]; kernel_rfl) G6.out (Nat.le_refl _) (by have h1 := HlF.out; have h2 := Hlc.out; have h3 := Hms.out; (try simp only [List.length_append, List.length_map, List.length_cons, List.length_nil, h2.1, h2.2.1, h2.2.2]); omega) ?_
        intro v7 y7a y7b y7c y7d w7x h7x
        have G7 := hide h7x
        clear h7x
        refine hKK _ _ ?_
        clear hKK KK
        have HT := hide (show (((((((F ++ [mk7 60]) ++ (cut a x1 m1).map shut) ++ [mk7 124]) ++ (cut o x0 m0).map shut) ++ [mk7 61]) ++ (cut b x2 m2).map shut) ++ [mk7 62]) = F ++ T by rw [HRm.out]; simp [mgX])
        go_wp2
        exact ⟨⟨k + 1, _, rfl, by omega, by go_num, by rw [HC.out]; go_num, by rw [HF.out, ← HT.out]; exact G7.out.own, G7.out.low⟩, by simp [intOf]; omega⟩
      · have h4b : (kd == 4) = false := by simpa using h4
        rw [if_neg h4] at hRm HC
        by_cases h2 : kd = 2
        · rw [if_pos h2] at hRm
          subst h2
          have hxx := Hsp.out.2.2
          obtain ⟨yy, hyy⟩ : ∃ z, z = x2 + m2 := ⟨_, rfl⟩
          have hnn : nb = b.length := Hnb.out
          have hlll : b.length ≤ 1000 := Ht.out.lb_
          have hcut := vs_cut Ht3.out.b_ (i := x2) (j := yy) (by omega) (by omega)
          have hcap := Ht3.out.b_.1
          rw [texts_len] at hcap
          have ecut : (b.drop x2).take (yy - x2) = T := by rw [hRm]; unfold cut; rw [Int.toNat_natCast, Int.toNat_natCast]; congr 1; omega
          rw [ecut] at hcut
          have hwr : IntKind.i64.wrap ((x2 : Int) + (m2 : Int)) = (yy : Int) := by rw [IntWalk.i64_in _ (by omega)]; omega
          have hrun := fun w => run_cut2 w Ab nb cb x2 yy (by omega) (by omega)
          have hTl : T.length = yy - x2 := by rw [hRm, cut_len rfl rfl hxx]; omega
          obtain ⟨A', hA'⟩ : ∃ A', A' = (if cb = x2 then Ab else Ab.map (·.add x2)) := ⟨_, rfl⟩
          rw [← hA'] at hcut
          simp only [← hA', ← hTl] at hrun
          have Hcut := hide (Lw.Vs.below hcut H0.out.low)
          have hyn : yy ≤ nb := by omega
          have hxy : x2 ≤ yy := by omega
          clear hcut hA' hTl ecut hcap hnn hlll hyy hxx hRm h4
          go_wp2_with (first | rw [← Hw5.out, ← Hq.out] | (at_builtin; go_loud (refine wpList_catT rfl (.tmp 111) (.tmp 123) 25 rfl Try.underlying25 Li.infoText w3.heap.size w3 v F T _ A' _ rfl rfl H0.out.own Hcut.out (by have := Hl2.out; omega) H0.out.low H0.out.low.size ?_; intro v1 w7 hown7 hb7 hg7)))
          exact ⟨⟨k + 1, _, rfl, by omega, by go_num, by rw [HC.out]; go_num, by rw [HF.out]; exact hown7, hb7⟩, by simp [intOf]; omega⟩
        · have h2b : (kd == 2) = false := by simpa using h2
          rw [if_neg h2] at hRm
          have hxx := Hsp.out.2.1
          obtain ⟨yy, hyy⟩ : ∃ z, z = x1 + m1 := ⟨_, rfl⟩
          have hnn : na = a.length := Hna.out
          have hlll : a.length ≤ 1000 := Ht.out.la_
          have hcut := vs_cut Ht3.out.a_ (i := x1) (j := yy) (by omega) (by omega)
          have hcap := Ht3.out.a_.1
          rw [texts_len] at hcap
          have ecut : (a.drop x1).take (yy - x1) = T := by rw [hRm]; unfold cut; rw [Int.toNat_natCast, Int.toNat_natCast]; congr 1; omega
          rw [ecut] at hcut
          have hwr : IntKind.i64.wrap ((x1 : Int) + (m1 : Int)) = (yy : Int) := by rw [IntWalk.i64_in _ (by omega)]; omega
          have hrun := fun w => run_cut2 w Aa na ca x1 yy (by omega) (by omega)
          have hTl : T.length = yy - x1 := by rw [hRm, cut_len rfl rfl hxx]; omega
          obtain ⟨A', hA'⟩ : ∃ A', A' = (if ca = x1 then Aa else Aa.map (·.add x1)) := ⟨_, rfl⟩
          rw [← hA'] at hcut
          simp only [← hA', ← hTl] at hrun
          have Hcut := hide (Lw.Vs.below hcut H0.out.low)
          have hyn : yy ≤ na := by omega
          have hxy : x1 ≤ yy := by omega
          clear hcut hA' hTl ecut hcap hnn hlll hyy hxx hRm h4 h2
          go_wp2_with (first | rw [← Hw5.out, ← Hq.out] | (at_builtin; go_loud (refine wpList_catT rfl (.tmp 125) (.tmp 137) 25 rfl Try.underlying25 Li.infoText w3.heap.size w3 v F T _ A' _ rfl rfl H0.out.own Hcut.out (by have := Hl2.out; omega) H0.out.low H0.out.low.size ?_; intro v1 w7 hown7 hb7 hg7)))
          exact ⟨⟨k + 1, _, rfl, by omega, by go_num, by rw [HC.out]; go_num, by rw [HF.out]; exact hown7, hb7⟩, by simp [intOf]; omega⟩
    · obtain rfl : k = N := by omega
      have HF := hide (show mgF o a b (L.take k) = mgL o a b by rw [HL.out, HNL.out, List.take_length])
      have HC := hide (show mgC (L.take k) = mgN o a b by rw [HN.out, HNL.out, List.take_length])
      have hown := Hown.out
      rw [HF.out] at hown
      rw [HC.out]
      have Hfin := hide (OwT.based hown Hb3.out.size)
      obtain ⟨A9, c9, rfl, _⟩ := hown.vs
      obtain ⟨l9, hl9⟩ : ∃ z, z = (mgL o a b).length := ⟨_, rfl⟩
      rw [← hl9] at Hfin ⊢
      clear hown hl9
      go_wp2
      go_ret2
      exact ⟨_, rfl, Hfin.out, Hb3.out.trans (Hb.out.mono Hb3.out.size)⟩
end Go.Proofs.Ytghnieddokhagaa.Al
