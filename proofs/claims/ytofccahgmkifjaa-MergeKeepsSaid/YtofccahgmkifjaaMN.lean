/-
  The statement MergeKeeps, walked.
-/
import Derived.Test.YtofccahgmkifjaaQ15
namespace Go.Proofs.Ytofccahgmkifjaa.Al
open Go Go.RowKit Kt Kg Lw Li Df

theorem mgF_take_le (o a b : Ls) (L : List Rg) (k : Nat) : (mgF o a b (L.take k)).length ≤ (mgF o a b L).length := by
  have e : mgF o a b L = mgF o a b (L.take k) ++ mgF o a b (L.drop k) := by unfold mgF; rw [← List.flatMap_append, List.take_append_drop]
  rw [e, List.length_append]; omega
theorem mgF_at (o a b : Ls) (L : List Rg) (k : Nat) (r : Rg) (h : L[k]? = some r) (h4 : r.kind = 4) : ∃ U, (mgF o a b (L.take (k + 1))).length = U + 1 ∧ (mgF o a b L)[U]? = some (mk7 62) := by
  have e : mgF o a b L = mgF o a b (L.take (k + 1)) ++ mgF o a b (L.drop (k + 1)) := by unfold mgF; rw [← List.flatMap_append, List.take_append_drop]
  have e2 : mgF o a b (L.take (k + 1)) = mgF o a b (L.take k) ++ mgR o a b r := by rw [take_snocR L k r h, mgF_snoc]
  obtain ⟨ys, hy⟩ := List.getLast?_eq_some_iff.1 (mgR_last (o := o) (a := a) (b := b) h4)
  rw [hy, ← List.append_assoc] at e2
  refine ⟨(mgF o a b (L.take k) ++ ys).length, by rw [e2, List.length_append]; rfl, ?_⟩
  rw [e, e2, List.getElem?_append_left (by simp), List.getElem?_append_right (Nat.le_refl _), Nat.sub_self]
  rfl
set_option maxRecDepth 100000 in
set_option maxHeartbeats 4000000 in
theorem lawKeeps_any (o a b : Ls) (Ao Aa Ab : Option Addr) (co ca cb : Nat) (P P' P2 : Nat → Prop) (w : World) (hso : Vs w P Ao co (texts o)) (hsa : Vs w P' Aa ca (texts a)) (hsb : Vs w P2 Ab cb (texts b)) (fo : Fit o) (fa : Fit a) (fb : Fit b) :
    Calls Try.prog 7 #[.slice Ao o.length co, .slice Aa a.length ca, .slice Ab b.length cb] w fun y w' => y = .returned (.bool true) ∧ Below w.heap.size w w' := by
  obtain ⟨no, hno⟩ : ∃ z, z = o.length := ⟨_, rfl⟩
  obtain ⟨na, hna⟩ : ∃ z, z = a.length := ⟨_, rfl⟩
  obtain ⟨nb, hnb⟩ : ∃ z, z = b.length := ⟨_, rfl⟩
  rw [← hno, ← hna, ← hnb]
  by_cases h0 : 20 < no
  · have d0 : decide (20 < (no : Int)) = true := decide_eq_true (by omega)
    clear h0  hso hsa hsb fo fa fb hno hna hnb
    go_enter Try.func7, Try.ntmps7
    go_wp2_with fail
    refine (mawake_any w).mono ?_
    rintro y w1 ⟨rfl, hb1⟩
    have Hb1 := hide hb1
    clear hb1
    go_wp2
    go_ret
    exact ⟨rfl, Hb1.out⟩
  have d0 : decide (20 < (no : Int)) = false := decide_eq_false (by omega)
  by_cases h1 : 20 < na
  · have d1 : decide (20 < (na : Int)) = true := decide_eq_true (by omega)
    clear h1 h0 hso hsa hsb fo fa fb hno hna hnb
    go_enter Try.func7, Try.ntmps7
    go_wp2_with fail
    refine (mawake_any w).mono ?_
    rintro y w1 ⟨rfl, hb1⟩
    have Hb1 := hide hb1
    clear hb1
    go_wp2
    go_ret
    exact ⟨rfl, Hb1.out⟩
  have d1 : decide (20 < (na : Int)) = false := decide_eq_false (by omega)
  by_cases h2 : 20 < nb
  · have d2 : decide (20 < (nb : Int)) = true := decide_eq_true (by omega)
    clear h2 h0 h1 hso hsa hsb fo fa fb hno hna hnb
    go_enter Try.func7, Try.ntmps7
    go_wp2_with fail
    refine (mawake_any w).mono ?_
    rintro y w1 ⟨rfl, hb1⟩
    have Hb1 := hide hb1
    clear hb1
    go_wp2
    go_ret
    exact ⟨rfl, Hb1.out⟩
  have d2 : decide (20 < (nb : Int)) = false := decide_eq_false (by omega)
  have ht : Trio w Ao Aa Ab co ca cb o a b := ⟨hso.bound, hsa.bound, hsb.bound, by omega, by omega, by omega⟩
  have HM := hide (fun w1 (hb : Below w.heap.size w w1) => mlines_any (ht.keep hb) fo fa fb)
  have HR := hide (fun w1 (hb : Below w.heap.size w w1) => regions_any (ht.keep hb))
  rw [← hno, ← hna, ← hnb] at HM HR
  have hcnt := regs_count o a b
  have hSp := Spn.regs o a b
  have hX : (mgL o a b).length ≤ 1000000 := mgL_len (by omega) (by omega) (by omega)
  have hlen : (regs o a b).length ≤ 60 := by omega
  have hA3 : o.length ≤ 20 ∧ a.length ≤ 20 ∧ b.length ≤ 20 := by omega
  have HA3 := hide hA3
  have HSp := hide hSp
  unfold mgN mgL at HM
  unfold mgL at hX
  generalize regs o a b = L at *
  generalize hXg : mgF o a b L = X at *
  have HXg := hide hXg
  obtain ⟨nn, hnn⟩ : ∃ z, z = mgC L := ⟨_, rfl⟩
  rw [← hnn] at HM
  have Hnn := hide hnn
  obtain ⟨N, hN⟩ : ∃ z, z = L.length := ⟨_, rfl⟩
  have hN60 : N ≤ 60 := by omega
  have HN := hide hN
  obtain ⟨nx, hnx⟩ : ∃ z, z = X.length := ⟨_, rfl⟩
  have Hnx := hide hnx
  have hnx6 : nx ≤ 1000000 := by omega
  have hnn6 : nn ≤ 60 := by have := mgC_le L; omega
  clear h0 h1 h2 hso hsa hsb fo fa fb hno hna hnb ht hcnt hSp hX hlen hA3 hXg hnn hN hnx
  go_enter Try.func7, Try.ntmps7
  go_wp2_with fail
  refine (mawake_any w).mono ?_
  rintro y w1 ⟨rfl, hb1⟩
  have Hb1 := hide hb1
  clear hb1
  go_wp2_with fail
  refine (HM.out w1 Hb1.out).mono ?_
  rintro y w2 ⟨vx, rfl, hox, hb2⟩
  obtain ⟨Ax, cx, rfl, hvx⟩ := hox.vs
  have Hvx := hide (vs_true hvx)
  have Hb2 := hide (Hb1.out.trans (hb2.mono Hb1.out.size))
  clear hb2 hox hvx
  rw [← Hnx.out]
  go_wp2_with fail
  refine (HR.out w2 Hb2.out).mono ?_
  rintro y w3 ⟨vR, rfl, hownR, hb3⟩
  obtain ⟨AR, cR, rfl, hrgs⟩ := hownR.rgs
  have Hrgs := hide hrgs
  have Hvx3 := hide (Lw.Vs.below Hvx.out hb3)
  have Hb3 := hide (Hb2.out.trans (hb3.mono Hb2.out.size))
  clear hownR hrgs hb3 HM HR Hvx
  rw [← HN.out]
  go_wp2_with fail
  go_loopw [10, 11, 13] (fun wt cl i wr => ∃ k : Nat, k ≤ N ∧ i = .int .i64 k ∧ wt = .int .i64 ((mgF o a b (L.take k)).length : Nat) ∧ cl = .int .i64 (mgC (L.take k) : Nat) ∧ Below w3.heap.size w3 wr) (fun _ _ i _ => N - (intOf i).toNat)
  case atStart => exact ⟨0, Nat.zero_le _, rfl, rfl, rfl, Below.refl _ _⟩
  case round =>
    obtain ⟨k, hk, rfl, rfl, rfl, hb⟩ := hrel
    have Hb := hide hb
    clear hb
    by_cases hlt : k < N
    · obtain ⟨b0, o0, r, rfl, hbl, hLk, hdrop, d0, d1, d2, d3, d4, d5, d6⟩ := Hrgs.out.at (w' := wr) Hb.out (k := k) (by have := HN.out; omega)
      obtain ⟨x0, m0, x1, m1, x2, m2, sp⟩ := HSp.out r (List.mem_of_getElem? hLk)
      have hlen1 := mgR_len sp
      have htk : (mgF o a b (L.take (k + 1))).length = (mgF o a b (L.take k)).length + (mgR o a b r).length := by rw [take_snocR L k r hLk, mgF_snoc, List.length_append]
      have hck : mgC (L.take (k + 1)) = mgC (L.take k) + (if r.kind = 4 then 1 else 0) := by rw [take_snocR L k r hLk, mgC_snoc]
      have hcl := mgC_le (L.take k)
      have hlt6 : (L.take k).length ≤ 60 := by rw [List.length_take]; omega
      have hle := mgF_take_le o a b L (k + 1)
      rw [HXg.out, ← Hnx.out] at hle
      have hat := mgF_at o a b L k r hLk
      rw [HXg.out] at hat
      rw [sp.o0] at d1
      rw [sp.on] at d2
      rw [sp.a0] at d3
      rw [sp.an] at d4
      rw [sp.b0] at d5
      rw [sp.bn] at d6
      unfold mgW at hlen1
      rw [sp.on, sp.an, sp.bn] at hlen1
      have hms : m0 ≤ 20 ∧ m1 ≤ 20 ∧ m2 ≤ 20 := by have := sp.oo; have := sp.aa; have := sp.bb; have := HA3.out; omega
      obtain ⟨kd, hkd⟩ : ∃ kd, kd = r.kind := ⟨_, rfl⟩
      rw [← hkd] at d0 hlen1 hck hat
      obtain ⟨V, hV⟩ : ∃ z, z = (mgF o a b (L.take (k + 1))).length := ⟨_, rfl⟩
      obtain ⟨W, hW⟩ : ∃ z, z = (mgF o a b (L.take k)).length := ⟨_, rfl⟩
      obtain ⟨cc, hcc⟩ : ∃ z, z = mgC (L.take k) := ⟨_, rfl⟩
      rw [← hV, ← hW] at htk
      rw [← hV] at hle hat
      rw [← hcc] at hck hcl
      rw [← hW, ← hcc]
      have HV := hide hV
      have Hck := hide hck
      obtain ⟨q, hq⟩ : ∃ q, q = wr.heap.size := ⟨_, rfl⟩
      obtain ⟨w5, hw5⟩ : ∃ w5, w5 = wr.alloc (.cells #[.int .i64 kd, .int .i64 x0, .int .i64 m0, .int .i64 x1, .int .i64 m1, .int .i64 x2, .int .i64 m2] tR) := ⟨_, rfl⟩
      have hb5 : Below wr.heap.size wr w5 := by rw [hw5]; exact (Below.refl _ wr).alloc (Nat.le_refl _) _
      have hrow5 : Row w5 q tR [.int .i64 kd, .int .i64 x0, .int .i64 m0, .int .i64 x1, .int .i64 m1, .int .i64 x2, .int .i64 m2] := by rw [hw5, hq]; exact Row.fresh wr tR _
      have Hb5 := hide (Hb.out.trans (hb5.mono Hb.out.size))
      have e0 := hrow5.cell 0
      have e2 := hrow5.cell 2
      have e4 := hrow5.cell 4
      have e6 := hrow5.cell 6
      simp only [List.getElem?_cons_zero, List.getElem?_cons_succ] at e0 e2 e4 e6
      have Hw5 := hide hw5
      have Hq := hide hq
      have Hvx5 := hide (Lw.Vs.below Hvx3.out Hb5.out)
      have hcc6 : cc ≤ 60 := by omega
      clear hb5 hrow5 hw5 hq sp hLk hdrop hbl hV hW hcc hkd hcl hlt6 hck
      by_cases h4 : kd = 4
      · obtain ⟨U, hU, hcell⟩ := hat h4
        rw [if_pos h4] at hlen1
        have h6 : V = W + m0 + m1 + m2 + 4 := by omega
        rw [if_pos h4] at Hck
        subst h4
        obtain ⟨bx, ox, rfl, _, hxc⟩ := Hvx5.out.2 (by rw [texts_len]; have := (List.getElem?_eq_some_iff.1 hcell).1; omega)
        have hUx : U < nx := by have := (List.getElem?_eq_some_iff.1 hcell).1; have := Hnx.out; omega
        have cU : w5.cell? ⟨bx, ox + U, none⟩ = some (.string ⟨#[62, 62, 62, 62, 62, 62, 62, 10]⟩) := hxc U _ (by unfold texts; rw [List.getElem?_map, hcell]; rfl)
        obtain ⟨s1, hs1⟩ : ∃ z, z = W + m0 := ⟨_, rfl⟩
        obtain ⟨s2, hs2⟩ : ∃ z, z = s1 + m1 := ⟨_, rfl⟩
        obtain ⟨s3, hs3⟩ : ∃ z, z = s2 + m2 := ⟨_, rfl⟩
        have f1 : IntKind.i64.wrap ((W : Int) + (m0 : Int)) = (s1 : Int) := by rw [IntWalk.i64_in _ (by omega)]; omega
        have f2 : IntKind.i64.wrap ((s1 : Int) + (m1 : Int)) = (s2 : Int) := by rw [IntWalk.i64_in _ (by omega)]; omega
        have f3 : IntKind.i64.wrap ((s2 : Int) + (m2 : Int)) = (s3 : Int) := by rw [IntWalk.i64_in _ (by omega)]; omega
        have f4 : IntKind.i64.wrap ((s3 : Int) + 4) = (V : Int) := by rw [IntWalk.i64_in _ (by omega)]; omega
        have f5 : IntKind.i64.wrap ((V : Int) - 1) = (U : Int) := by rw [IntWalk.i64_in _ (by omega)]; omega
        have f6 : ¬ (nx : Int) < (V : Int) := by omega
        have f7 : decide ((nx : Int) < (V : Int)) = false := decide_eq_false f6
        clear hat hU hcell hxc hs1 hs2 hs3 h6 hle htk hlen1 hms
        go_wp2_with (first | rw [← Hw5.out, ← Hq.out] | fail)
        exact ⟨⟨k + 1, by omega, by go_num, by rw [← HV.out], by rw [Hck.out]; simp, Hb5.out⟩, by simp [intOf]; omega⟩
      · have h4b : (kd == 4) = false := by simpa using h4
        rw [if_neg h4] at hlen1 Hck
        by_cases h2 : kd = 2
        · rw [if_pos h2] at hlen1
          have f1 : IntKind.i64.wrap ((W : Int) + (m2 : Int)) = (V : Int) := by rw [IntWalk.i64_in _ (by omega)]; omega
          have f6 : ¬ (nx : Int) < (V : Int) := by omega
          have f7 : decide ((nx : Int) < (V : Int)) = false := decide_eq_false f6
          clear hat hle htk hlen1 hms
          subst h2
          go_wp2_with (first | rw [← Hw5.out, ← Hq.out] | fail)
          exact ⟨⟨k + 1, by omega, by go_num, by rw [← HV.out], by rw [Hck.out]; simp, Hb5.out⟩, by simp [intOf]; omega⟩
        · have h2b : (kd == 2) = false := by simpa using h2
          rw [if_neg h2] at hlen1
          have f1 : IntKind.i64.wrap ((W : Int) + (m1 : Int)) = (V : Int) := by rw [IntWalk.i64_in _ (by omega)]; omega
          have f6 : ¬ (nx : Int) < (V : Int) := by omega
          have f7 : decide ((nx : Int) < (V : Int)) = false := decide_eq_false f6
          clear hat hle htk hlen1 hms
          clear h2
          go_wp2_with (first | rw [← Hw5.out, ← Hq.out] | fail)
          exact ⟨⟨k + 1, by omega, by go_num, by rw [← HV.out], by rw [Hck.out]; simp, Hb5.out⟩, by simp [intOf]; omega⟩
    · obtain rfl : k = N := by omega
      have e1 : (mgF o a b (L.take k)).length = nx := by rw [HN.out, List.take_length, HXg.out, ← Hnx.out]
      have e2 : mgC (L.take k) = nn := by rw [HN.out, List.take_length, ← Hnn.out]
      rw [e1, e2]
      clear e1 e2
      go_wp2
      go_ret
      exact ⟨by simp, Hb3.out.trans (Hb.out.mono Hb3.out.size)⟩
end Go.Proofs.Ytofccahgmkifjaa.Al
