/-
  Two sides' lines, together: merge.Lines.
-/
import Derived.BigQuiet
import Derived.Test.YtofccahgmkifjaaQ14
namespace Go.Proofs.Ytofccahgmkifjaa.Al
open Go Go.RowKit Kt Kg Lw Li Df

theorem take_snocR (L : List Rg) (k : Nat) (r : Rg) (h : L[k]? = some r) : L.take (k + 1) = L.take k ++ [r] := by
  obtain ⟨hk, e⟩ := List.getElem?_eq_some_iff.1 h
  rw [List.take_succ_eq_append_getElem hk, e]
theorem Trio.keep {w w' : World} {Ao Aa Ab : Option Addr} {co ca cb : Nat} {o a b : Ls} (h : Trio w Ao Aa Ab co ca cb o a b) (hb : Below w.heap.size w w') : Trio w' Ao Aa Ab co ca cb o a b :=
  ⟨(Lw.Vs.below h.o_ hb).bound, (Lw.Vs.below h.a_ hb).bound, (Lw.Vs.below h.b_ hb).bound, h.lo_, h.la_, h.lb_⟩
theorem kinds_of {o a b : Ls} {r : Rg} {O ON A AN B BN : Nat} (h : Spn o a b r O ON A AN B BN) : r.kind = 0 ∨ r.kind = 1 ∨ r.kind = 2 ∨ r.kind = 3 ∨ r.kind = 4 := by
  rcases holdsK_cases h.hk with ⟨k, _⟩ | ⟨k, _⟩ | ⟨k, _⟩ | ⟨k, _⟩ | k
  · exact .inl k
  · exact .inr (.inl k)
  · exact .inr (.inr (.inl k))
  · exact .inr (.inr (.inr (.inl k)))
  · exact .inr (.inr (.inr (.inr k)))
abbrev Told (w : World) (y : Ending) (w' : World) (l : Ls) (n : Nat) : Prop := ∃ A c, y = .returned (.slice A n c) ∧ Vs w' (fun _ => True) A c (texts l) ∧ Below w.heap.size w w'
theorem vs_true {w : World} {P : Nat → Prop} {A : Option Addr} {c : Nat} {vs : List Value} (h : Vs w P A c vs) : Vs w (fun _ => True) A c vs :=
  ⟨h.1, fun hp => by
    obtain ⟨b, o, e, _, hc⟩ := h.2 hp
    exact ⟨b, o, e, trivial, hc⟩⟩
set_option maxRecDepth 100000 in
set_option maxHeartbeats 4000000 in
theorem mlines_any {w : World} {Ao Aa Ab : Option Addr} {co ca cb : Nat} {o a b : Ls} (ht : Trio w Ao Aa Ab co ca cb o a b) (fo : Fit o) (fa : Fit a) (fb : Fit b) :
    Calls Try.prog 9 #[.slice Ao o.length co, .slice Aa a.length ca, .slice Ab b.length cb] w fun y w' => ∃ v, y = .returned (.tuple #[v, .int .i64 (mgN o a b : Nat)]) ∧ OwT w' w.heap.size 9 v (mgL o a b) ∧ Below w.heap.size w w' := by
  have HT1 := hide (tellers_any Ao Aa Ab o.length a.length b.length co ca cb w)
  have HR := hide (fun (w1 : World) (hb : Below w.heap.size w w1) => regions_any (ht.keep hb))
  obtain ⟨no, hno⟩ : ∃ z, z = o.length := ⟨_, rfl⟩
  obtain ⟨na, hna⟩ : ∃ z, z = a.length := ⟨_, rfl⟩
  obtain ⟨nb, hnb⟩ : ∃ z, z = b.length := ⟨_, rfl⟩
  have Ht := hide ht
  have Hf := hide (show Fit o ∧ Fit a ∧ Fit b from ⟨fo, fa, fb⟩)
  rw [← hno, ← hna, ← hnb] at HT1 HR ⊢
  have Hno := hide hno
  have Hna := hide hna
  have Hnb := hide hnb
  clear ht fo fa fb hno hna hnb
  go_enter Try.func9, Try.ntmps9
  go_wp2_with fail
  refine HT1.out.mono ?_
  rintro y w2 ⟨g, go, ga, gb, rfl, htel, hb2⟩
  have Htel := hide htel
  have Hb2 := hide hb2
  clear htel hb2
  go_wp2_with fail
  refine (HR.out w2 Hb2.out).mono ?_
  rintro y w3 ⟨vR, rfl, hownR, hb3⟩
  obtain ⟨AR, cR, rfl, hrgs⟩ := hownR.rgs
  have Hrgs := hide hrgs
  have Htel3 := hide (Htel.out.keep hb3)
  have Hb3 := hide (Hb2.out.trans (hb3.mono Hb2.out.size))
  have hcnt := regs_count o a b
  have hSp := Spn.regs o a b
  have hLn := fun k => mg_lens Ht.out.lo_ Ht.out.la_ Ht.out.lb_ k
  have HL := hide (show mgL o a b = mgF o a b (regs o a b) from rfl)
  have HN := hide (show mgN o a b = mgC (regs o a b) from rfl)
  have hlen : (regs o a b).length ≤ 3000 := by have := Ht.out.lo_; have := Ht.out.la_; have := Ht.out.lb_; omega
  generalize regs o a b = L at *
  obtain ⟨N, hN⟩ : ∃ N, N = L.length := ⟨_, rfl⟩
  rw [← hN] at hlen ⊢
  have HNL := hide hN
  have HSp := hide hSp
  have HLn := hide hLn
  have Hlen := hide hlen
  clear hownR hrgs hb3 hcnt hSp hLn hN HT1 HR Hb2 Htel hlen
  go_wp2_with fail
  go_loopw [9, 10, 22] (fun s n i wr => ∃ (k : Nat) (v0 : Value), v0 = s ∧ k ≤ N ∧ i = .int .i64 k ∧ n = .int .i64 (mgC (L.take k) : Nat) ∧ OwT wr w3.heap.size 9 v0 (mgF o a b (L.take k)) ∧ Below w3.heap.size w3 wr) (fun _ _ i _ => N - (intOf i).toNat)
  case atStart => exact ⟨0, _, rfl, Nat.zero_le _, rfl, rfl, OwT.nil _ _ _, Below.refl _ _⟩
  case round =>
    obtain ⟨k, v, rfl, hk, rfl, rfl, hown, hb⟩ := hrel
    have Hown := hide hown
    have Hb := hide hb
    clear hown hb
    by_cases hlt : k < N
    · obtain ⟨b0, o0, r, rfl, hbl, hLk, hdrop, d0, d1, d2, d3, d4, d5, d6⟩ := Hrgs.out.at (w' := wr) Hb.out (k := k) (by have := HNL.out; omega)
      obtain ⟨x0, m0, x1, m1, x2, m2, sp⟩ := HSp.out r (List.mem_of_getElem? hLk)
      have hkc := kinds_of sp
      have Hsn := hide (take_snocR L k r hLk)
      have hmc := mgC_le (L.take k)
      have hmk : (L.take k).length ≤ 3000 := by have := Hlen.out; have := HNL.out; rw [List.length_take]; omega
      have Hl1 := hide (HLn.out k)
      have Hl2 := hide (HLn.out (k + 1))
      rw [Hsn.out, mgF_snoc, List.length_append] at Hl2
      have HF := hide (show mgF o a b (L.take (k + 1)) = mgF o a b (L.take k) ++ mgR o a b r by rw [Hsn.out, mgF_snoc])
      have HC := hide (show mgC (L.take (k + 1)) = mgC (L.take k) + (if r.kind = 4 then 1 else 0) by rw [Hsn.out, mgC_snoc])
      rw [sp.o0] at d1
      rw [sp.on] at d2
      rw [sp.a0] at d3
      rw [sp.an] at d4
      rw [sp.b0] at d5
      rw [sp.bn] at d6
      have htr := fun (wz : World) (hz : Below w3.heap.size w3 wz) => Ht.out.keep (Hb3.out.trans (hz.mono Hb3.out.size))
      have hte := fun (wz : World) (hz : Below w3.heap.size w3 wz) => Htel3.out.keep hz
      have hRm : mgR o a b r = if r.kind = 4 then mgX (cut o x0 m0) (cut a x1 m1) (cut b x2 m2) else if r.kind = 2 then cut b x2 m2 else cut a x1 m1 := by
        unfold mgR; rw [sp.o0, sp.on, sp.a0, sp.an, sp.b0, sp.bn]
      have hsp := And.intro sp.oo (And.intro sp.aa sp.bb)
      obtain ⟨T, hT⟩ : ∃ T, T = mgR o a b r := ⟨_, rfl⟩
      obtain ⟨kd, hkd⟩ : ∃ kd, kd = r.kind := ⟨_, rfl⟩
      rw [← hT] at HF hRm Hl2
      rw [← hkd] at hkc hRm d0 HC
      obtain ⟨nt, hnt⟩ : ∃ z, z = T.length := ⟨_, rfl⟩
      have Hnt := hide hnt
      have Hla := hide (show o.length ≤ 1000 ∧ a.length ≤ 1000 ∧ b.length ≤ 1000 from ⟨Ht.out.lo_, Ht.out.la_, Ht.out.lb_⟩)
      generalize mgF o a b (L.take k) = F at *
      obtain ⟨cc, hcc⟩ : ∃ z, z = mgC (L.take k) := ⟨_, rfl⟩
      rw [← hcc] at hmc HC ⊢
      have hcc3 : cc ≤ 3000 := by omega
      have Hcc := hide hcc
      clear hsp hT hkd hnt hcc hmc hmk hLk hdrop hbl
      obtain ⟨q, hq⟩ : ∃ q, q = wr.heap.size := ⟨_, rfl⟩
      obtain ⟨w5, hw5⟩ : ∃ w5, w5 = wr.alloc (.cells #[.int .i64 kd, .int .i64 x0, .int .i64 m0, .int .i64 x1, .int .i64 m1, .int .i64 x2, .int .i64 m2] tR) := ⟨_, rfl⟩
      have hb5 : Below wr.heap.size wr w5 := by rw [hw5]; exact (Below.refl _ wr).alloc (Nat.le_refl _) _
      have hrow5 : Row w5 q tR [.int .i64 kd, .int .i64 x0, .int .i64 m0, .int .i64 x1, .int .i64 m1, .int .i64 x2, .int .i64 m2] := by rw [hw5, hq]; exact Row.fresh wr tR _
      have Hb5 := hide (Hb.out.trans (hb5.mono Hb.out.size))
      have Hown5 := hide (Hown.out.kept hb5)
      have hqv : v.ownBlock ≠ some q := fun h => by have := (World.ownsRow.lt Hown.out q h).2; omega
      have e0 := hrow5.cell 0
      have e1 := hrow5.cell 1
      have e2 := hrow5.cell 2
      have e3 := hrow5.cell 3
      have e4 := hrow5.cell 4
      have e5 := hrow5.cell 5
      have e6 := hrow5.cell 6
      simp only [List.getElem?_cons_zero, List.getElem?_cons_succ] at e0 e1 e2 e3 e4 e5 e6
      have Hrow5 := hide hrow5
      have Hw5 := hide hw5
      have Hq := hide hq
      have Hqv := hide hqv
      have HQ7 := hide (show ∀ w6 w7, Below w5.heap.size w5 w6 → w6.grownBy w7 v.ownBlock → w7.cell? ⟨q, 0, none⟩ = some (.int .i64 kd) from fun w6 w7 h6 h7 => by
        have h := Hrow5.out.below h6 Hrow5.out.lt
        have := h7.block q h.lt (fun e => Hqv.out e.symm)
        exact (World.cell?_of_block (a := ⟨q, 0, none⟩) this).trans (h.cell 0))
      have hlk := look_any w5 g go ga gb kd (hte w5 Hb5.out).map hkc
      have htr5 := htr w5 Hb5.out
      have hte5 := hte w5 Hb5.out
      clear htr hte hb5 hrow5 hw5 hq hqv
      by_cases h4 : kd = 4
      · rw [if_pos h4] at hRm HC
        subst h4
        replace hlk : (Instr.lookup tM (.map (some g)) (.int .i64 4) false).run Try.prog w5 = .ok (.func (.func 34) #[] #[.pointer (some ⟨ga, 0, none⟩), .pointer (some ⟨go, 0, none⟩), .pointer (some ⟨gb, 0, none⟩)]) w5 := hlk
        have hTel : Calls Try.prog 34 #[.agg #[.int .i64 4, .int .i64 x0, .int .i64 m0, .int .i64 x1, .int .i64 m1, .int .i64 x2, .int .i64 m2], .pointer (some ⟨ga, 0, none⟩), .pointer (some ⟨go, 0, none⟩), .pointer (some ⟨gb, 0, none⟩)] w5 fun y w' => Told w5 y w' T nt := by
          refine (tell3_any 4 x0 m0 x1 m1 x2 m2 go ga gb w5 htr5 Hf.out.1 Hf.out.2.1 Hf.out.2.2 (by rw [← Hno.out]; exact hte5.o_) (by rw [← Hna.out]; exact hte5.a_) (by rw [← Hnb.out]; exact hte5.b_) sp.oo sp.aa sp.bb).mono ?_
          rintro y w' ⟨v', rfl, ho, hb'⟩
          rw [← hRm] at ho
          obtain ⟨A', c', rfl, hv'⟩ := ho.vs
          exact ⟨A', c', by rw [Hnt.out], vs_true hv', hb'⟩
        have HTel := hide hTel
        clear hTel hte5 htr5 hRm hkc sp
        go_wp2_with (first | rw [← Hw5.out, ← Hq.out] | fail)
        refine HTel.out.mono ?_
        rintro y w6 ⟨A6, c6, rfl, hv6, hb6⟩
        have Hv6 := hide hv6
        have Hb6 := hide hb6
        have Hown6 := hide (Hown5.out.kept hb6)
        have Hlow6 := hide (Hb5.out.trans (hb6.mono Hb5.out.size))
        clear hv6 hb6 e0 e1 e2 e3 e4 e5 e6 hlk
        rename_i KK hKK
        refine hKK _ _ ?_
        clear hKK KK
        rw [Hnt.out]
        refine wpList_catT rfl (.tmp 26) (.tmp 32) 22 rfl Try.underlying22 Li.infoText w3.heap.size w3 v F T (fun _ => True) A6 c6 rfl rfl Hown6.out Hv6.out (by have := Hl2.out; omega) Hlow6.out Hlow6.out.size ?_
        intro v1 w7 hown7 hb7 hg7
        have e0 := HQ7.out w6 w7 Hb6.out hg7
        have Hown7 := hide hown7
        have Hb7 := hide hb7
        have hN3 : N ≤ 3000 := Hlen.out
        clear hg7 hown7 hb7 d0 d1 d2 d3 d4 d5 d6
        go_wp2
        refine ⟨⟨k + 1, _, rfl, by omega, by go_num, ?_, by rw [HF.out]; exact Hown7.out, Hb7.out⟩, by simp [intOf]; omega⟩
        rw [HC.out]
        go_num
      · have h4b : (kd == 4) = false := by simpa using h4
        rw [if_neg h4] at hRm HC
        by_cases h2 : kd = 2
        · rw [if_pos h2] at hRm
          have hlk2 : teF go ga gb kd = .func (.func 33) #[] #[.pointer (some ⟨gb, 0, none⟩)] := by unfold teF; rw [if_neg h4, if_pos h2]; rfl
          rw [hlk2] at hlk
          clear hlk2 h2
          have hTel : Calls Try.prog 33 #[.agg #[.int .i64 kd, .int .i64 x0, .int .i64 m0, .int .i64 x1, .int .i64 m1, .int .i64 x2, .int .i64 m2], .pointer (some ⟨gb, 0, none⟩)] w5 fun y w' => Told w5 y w' T nt := by
            refine (tell2_any kd x0 m0 x1 m1 b x2 m2 gb Ab cb _ w5 (by rw [← Hnb.out]; exact hte5.b_) htr5.b_ sp.bb (by have := Hla.out; omega)).mono ?_
            rintro y w' ⟨A', c', rfl, hv', hb'⟩
            rw [← hRm] at hv'
            exact ⟨A', c', by rw [Hnt.out, hRm, cut_len rfl rfl sp.bb], vs_true hv', hb'⟩
          have HTel := hide hTel
          clear hTel hte5 htr5 hRm hkc sp
          go_wp2_with (first | rw [← Hw5.out, ← Hq.out] | fail)
          refine HTel.out.mono ?_
          rintro y w6 ⟨A6, c6, rfl, hv6, hb6⟩
          have Hv6 := hide hv6
          have Hb6 := hide hb6
          have Hown6 := hide (Hown5.out.kept hb6)
          have Hlow6 := hide (Hb5.out.trans (hb6.mono Hb5.out.size))
          clear hv6 hb6 e0 e1 e2 e3 e4 e5 e6 hlk
          rename_i KK hKK
          refine hKK _ _ ?_
          clear hKK KK
          rw [Hnt.out]
          refine wpList_catT rfl (.tmp 26) (.tmp 32) 22 rfl Try.underlying22 Li.infoText w3.heap.size w3 v F T (fun _ => True) A6 c6 rfl rfl Hown6.out Hv6.out (by have := Hl2.out; omega) Hlow6.out Hlow6.out.size ?_
          intro v1 w7 hown7 hb7 hg7
          have e0 := HQ7.out w6 w7 Hb6.out hg7
          have Hown7 := hide hown7
          have Hb7 := hide hb7
          have hN3 : N ≤ 3000 := Hlen.out
          clear hg7 hown7 hb7 d0 d1 d2 d3 d4 d5 d6
          go_wp2
          refine ⟨⟨k + 1, _, rfl, by omega, by go_num, ?_, by rw [HF.out]; exact Hown7.out, Hb7.out⟩, by simp [intOf]; omega⟩
          rw [HC.out]
          go_num
        · rw [if_neg h2] at hRm
          have hlk2 : teF go ga gb kd = .func (.func 31) #[] #[.pointer (some ⟨ga, 0, none⟩)] := by unfold teF; rw [if_neg h4, if_neg h2]; rfl
          rw [hlk2] at hlk
          clear hlk2 h2
          have hTel : Calls Try.prog 31 #[.agg #[.int .i64 kd, .int .i64 x0, .int .i64 m0, .int .i64 x1, .int .i64 m1, .int .i64 x2, .int .i64 m2], .pointer (some ⟨ga, 0, none⟩)] w5 fun y w' => Told w5 y w' T nt := by
            refine (tell1_any kd x0 m0 x2 m2 a x1 m1 ga Aa ca _ w5 (by rw [← Hna.out]; exact hte5.a_) htr5.a_ sp.aa (by have := Hla.out; omega)).mono ?_
            rintro y w' ⟨A', c', rfl, hv', hb'⟩
            rw [← hRm] at hv'
            exact ⟨A', c', by rw [Hnt.out, hRm, cut_len rfl rfl sp.aa], vs_true hv', hb'⟩
          have HTel := hide hTel
          clear hTel hte5 htr5 hRm hkc sp
          go_wp2_with (first | rw [← Hw5.out, ← Hq.out] | fail)
          refine HTel.out.mono ?_
          rintro y w6 ⟨A6, c6, rfl, hv6, hb6⟩
          have Hv6 := hide hv6
          have Hb6 := hide hb6
          have Hown6 := hide (Hown5.out.kept hb6)
          have Hlow6 := hide (Hb5.out.trans (hb6.mono Hb5.out.size))
          clear hv6 hb6 e0 e1 e2 e3 e4 e5 e6 hlk
          rename_i KK hKK
          refine hKK _ _ ?_
          clear hKK KK
          rw [Hnt.out]
          refine wpList_catT rfl (.tmp 26) (.tmp 32) 22 rfl Try.underlying22 Li.infoText w3.heap.size w3 v F T (fun _ => True) A6 c6 rfl rfl Hown6.out Hv6.out (by have := Hl2.out; omega) Hlow6.out Hlow6.out.size ?_
          intro v1 w7 hown7 hb7 hg7
          have e0 := HQ7.out w6 w7 Hb6.out hg7
          have Hown7 := hide hown7
          have Hb7 := hide hb7
          have hN3 : N ≤ 3000 := Hlen.out
          clear hg7 hown7 hb7 d0 d1 d2 d3 d4 d5 d6
          go_wp2
          refine ⟨⟨k + 1, _, rfl, by omega, by go_num, ?_, by rw [HF.out]; exact Hown7.out, Hb7.out⟩, by simp [intOf]; omega⟩
          rw [HC.out]
          go_num
    · obtain rfl : k = N := by omega
      have HF := hide (show mgF o a b (L.take k) = mgL o a b by rw [HL.out, HNL.out, List.take_length])
      have HC := hide (show mgC (L.take k) = mgN o a b by rw [HN.out, HNL.out, List.take_length])
      have hown := Hown.out
      rw [HF.out] at hown
      rw [HC.out]
      have Hfin := hide (OwT.based hown Hb3.out.size)
      obtain ⟨A9, c9, rfl, _⟩ := hown.vs
      obtain ⟨l9, hl9⟩ : ∃ z, z = (mgL o a b).length := ⟨_, rfl⟩
      rw [← hl9] at Hfin ⊢
      clear hown hl9
      go_wp2
      go_ret2
      exact ⟨_, rfl, Hfin.out, Hb3.out.trans (Hb.out.mono Hb3.out.size)⟩
end Go.Proofs.Ytofccahgmkifjaa.Al
namespace Go.Proofs.Ytofccahgmkifjaa.Al
open Go Go.RowKit Kt Kg Lw Li Df

/-- two sides' texts, together; how many clashes -/
def mgT (o a b : List UInt8) : List UInt8 × Nat :=
  if a = b ∨ b = o then (a, 0) else if a = o then (b, 0)
  else if binary o || binary a || binary b then (if Op.bytesLess a b then b else a, 1)
  else ((mgL (lns o) (lns a) (lns b)).flatten, mgN (lns o) (lns a) (lns b))
theorem mgT_same {o a b : List UInt8} (h : a = b ∨ b = o) : mgT o a b = (a, 0) := if_pos h
theorem mgT_one {o a b : List UInt8} (h : ¬ (a = b ∨ b = o)) (h' : a = o) : mgT o a b = (b, 0) := by unfold mgT; rw [if_neg h, if_pos h']
theorem mgT_bin {o a b : List UInt8} (h : ¬ (a = b ∨ b = o)) (h' : ¬ a = o) (h2 : (binary o || binary a || binary b) = true) : mgT o a b = (if Op.bytesLess a b then b else a, 1) := by
  unfold mgT; rw [if_neg h, if_neg h', if_pos h2]
theorem mgT_lines {o a b : List UInt8} (h : ¬ (a = b ∨ b = o)) (h' : ¬ a = o) (h2 : (binary o || binary a || binary b) = false) : mgT o a b = ((mgL (lns o) (lns a) (lns b)).flatten, mgN (lns o) (lns a) (lns b)) := by
  unfold mgT; rw [if_neg h, if_neg h', if_neg (by rw [h2]; decide)]
theorem to_list (x : List UInt8) : (ByteArray.mk x.toArray).toList = x := by
  rw [Lib.toList_data]
theorem run_max_txt {P : Program} (w : World) (ts : Array TypeId) (ty : TypeId) (x y : List UInt8) : (Builtin.max_ ts ty #[.string ⟨x.toArray⟩, .string ⟨y.toArray⟩]).run P w = .ok (.string ⟨(if Op.bytesLess x y then y else x).toArray⟩) w := by
  unfold Builtin.max_
  simp only [List.foldlM_cons, List.foldlM_nil, Builtin.max2, Op.stringOp, to_list]
  cases Op.bytesLess x y <;> simp [asBool, Sem.run_pure]
theorem mgL_len {o a b : Ls} (ho : o.length ≤ 60) (ha : a.length ≤ 60) (hb : b.length ≤ 60) : (mgL o a b).length ≤ 1000000 := by
  have h1 := regs_count o a b
  have h2 := mgF_le (o := o) (a := a) (b := b) (m := 184) (L := regs o a b) fun r hr => by
    obtain ⟨_, _, _, _, _, _, sp⟩ := Spn.regs o a b r hr
    have := mgR_le sp
    omega
  have h3 : (regs o a b).length ≤ 180 := by omega
  have := Nat.mul_le_mul_right 184 h3
  unfold mgL
  omega
abbrev TextQ (w : World) (y : Ending) (w' : World) (r : List UInt8 × Nat) : Prop := y = .returned (.tuple #[.string ⟨r.1.toArray⟩, .int .i64 (r.2 : Nat)]) ∧ Below w.heap.size w w'
theorem eq_no {x y : List UInt8} (h : ¬ x = y) : (x == y) = false := by simpa using h
theorem fit_lns {s : List UInt8} (h : s.length ≤ 60) : Fit (lns s) := fun x hx => by have := lns_mem_le hx; omega
set_option maxRecDepth 100000 in
set_option maxHeartbeats 2000000 in
theorem mtext_1 (o a b : List UInt8) (w : World) (h : a = b) :
    Calls Try.prog 12 #[.string ⟨o.toArray⟩, .string ⟨a.toArray⟩, .string ⟨b.toArray⟩] w fun y w' => TextQ w y w' (a, 0) := by
  subst h
  go_enter Try.func12, Try.ntmps12
  go_wp2
  go_ret2
  exact ⟨rfl, Below.refl _ _⟩
set_option maxRecDepth 100000 in
set_option maxHeartbeats 2000000 in
theorem mtext_2 (o a b : List UInt8) (w : World) (h : ¬ a = b) (h2 : b = o) :
    Calls Try.prog 12 #[.string ⟨o.toArray⟩, .string ⟨a.toArray⟩, .string ⟨b.toArray⟩] w fun y w' => TextQ w y w' (a, 0) := by
  have E1 := eq_no h
  clear h
  subst h2
  go_enter Try.func12, Try.ntmps12
  go_wp2
  go_ret2
  exact ⟨rfl, Below.refl _ _⟩
set_option maxRecDepth 100000 in
set_option maxHeartbeats 2000000 in
theorem mtext_3 (o a b : List UInt8) (w : World) (h : ¬ a = b) (h2 : ¬ b = o) (h3 : a = o) :
    Calls Try.prog 12 #[.string ⟨o.toArray⟩, .string ⟨a.toArray⟩, .string ⟨b.toArray⟩] w fun y w' => TextQ w y w' (b, 0) := by
  have E1 := eq_no h
  have E2 := eq_no h2
  clear h h2
  subst h3
  go_enter Try.func12, Try.ntmps12
  go_wp2
  go_ret2
  exact ⟨rfl, Below.refl _ _⟩
set_option maxRecDepth 100000 in
set_option maxHeartbeats 2000000 in
theorem mtext_4 (o a b : List UInt8) (w : World) (h : ¬ a = b) (h2 : ¬ b = o) (h3 : ¬ a = o) (bo : binary o = true) :
    Calls Try.prog 12 #[.string ⟨o.toArray⟩, .string ⟨a.toArray⟩, .string ⟨b.toArray⟩] w fun y w' => TextQ w y w' (if Op.bytesLess a b then b else a, 1) := by
  have E1 := eq_no h
  have E2 := eq_no h2
  have E3 := eq_no h3
  have Ho := hide (fun w => binary_any o w)
  rw [bo] at Ho
  have hmax := fun ts ty w => run_max_txt (P := Try.prog) w ts ty a b
  obtain ⟨T, hT⟩ : ∃ T, T = if Op.bytesLess a b then b else a := ⟨_, rfl⟩
  rw [← hT]
  simp only [← hT] at hmax
  clear hT h h2 h3 bo
  go_enter Try.func12, Try.ntmps12
  go_wp2_with fail
  refine (Ho.out _).mono ?_
  rintro y w' ⟨rfl, rfl⟩
  go_wp2
  go_ret2
  exact ⟨rfl, Below.refl _ _⟩
set_option maxRecDepth 100000 in
set_option maxHeartbeats 2000000 in
theorem mtext_5 (o a b : List UInt8) (w : World) (h : ¬ a = b) (h2 : ¬ b = o) (h3 : ¬ a = o) (bo : binary o = false) (ba : binary a = true) :
    Calls Try.prog 12 #[.string ⟨o.toArray⟩, .string ⟨a.toArray⟩, .string ⟨b.toArray⟩] w fun y w' => TextQ w y w' (if Op.bytesLess a b then b else a, 1) := by
  have E1 := eq_no h
  have E2 := eq_no h2
  have E3 := eq_no h3
  have Ho := hide (fun w => binary_any o w)
  rw [bo] at Ho
  have Ha := hide (fun w => binary_any a w)
  rw [ba] at Ha
  have hmax := fun ts ty w => run_max_txt (P := Try.prog) w ts ty a b
  obtain ⟨T, hT⟩ : ∃ T, T = if Op.bytesLess a b then b else a := ⟨_, rfl⟩
  rw [← hT]
  simp only [← hT] at hmax
  clear hT h h2 h3 bo ba
  go_enter Try.func12, Try.ntmps12
  go_wp2_with fail
  refine (Ho.out _).mono ?_
  rintro y w' ⟨rfl, rfl⟩
  go_wp2_with fail
  refine (Ha.out _).mono ?_
  rintro y w' ⟨rfl, rfl⟩
  go_wp2
  go_ret2
  exact ⟨rfl, Below.refl _ _⟩
set_option maxRecDepth 100000 in
set_option maxHeartbeats 2000000 in
theorem mtext_6 (o a b : List UInt8) (w : World) (h : ¬ a = b) (h2 : ¬ b = o) (h3 : ¬ a = o) (bo : binary o = false) (ba : binary a = false) (bb : binary b = true) :
    Calls Try.prog 12 #[.string ⟨o.toArray⟩, .string ⟨a.toArray⟩, .string ⟨b.toArray⟩] w fun y w' => TextQ w y w' (if Op.bytesLess a b then b else a, 1) := by
  have E1 := eq_no h
  have E2 := eq_no h2
  have E3 := eq_no h3
  have Ho := hide (fun w => binary_any o w)
  rw [bo] at Ho
  have Ha := hide (fun w => binary_any a w)
  rw [ba] at Ha
  have Hb := hide (fun w => binary_any b w)
  rw [bb] at Hb
  have hmax := fun ts ty w => run_max_txt (P := Try.prog) w ts ty a b
  obtain ⟨T, hT⟩ : ∃ T, T = if Op.bytesLess a b then b else a := ⟨_, rfl⟩
  rw [← hT]
  simp only [← hT] at hmax
  clear hT h h2 h3 bo ba bb
  go_enter Try.func12, Try.ntmps12
  go_wp2_with fail
  refine (Ho.out _).mono ?_
  rintro y w' ⟨rfl, rfl⟩
  go_wp2_with fail
  refine (Ha.out _).mono ?_
  rintro y w' ⟨rfl, rfl⟩
  go_wp2_with fail
  refine (Hb.out _).mono ?_
  rintro y w' ⟨rfl, rfl⟩
  go_wp2
  go_ret2
  exact ⟨rfl, Below.refl _ _⟩
set_option maxRecDepth 100000 in
set_option maxHeartbeats 2000000 in
theorem mtext_7 (o a b : List UInt8) (w : World) (h : ¬ a = b) (h2 : ¬ b = o) (h3 : ¬ a = o) (bo : binary o = false) (ba : binary a = false) (bb : binary b = false) (lo : o.length ≤ 60) (la : a.length ≤ 60) (lb : b.length ≤ 60) :
    Calls Try.prog 12 #[.string ⟨o.toArray⟩, .string ⟨a.toArray⟩, .string ⟨b.toArray⟩] w fun y w' => TextQ w y w' ((mgL (lns o) (lns a) (lns b)).flatten, mgN (lns o) (lns a) (lns b)) := by
  have E1 := eq_no h
  have E2 := eq_no h2
  have E3 := eq_no h3
  have Ho := hide (fun w => binary_any o w)
  rw [bo] at Ho
  have Ha := hide (fun w => binary_any a w)
  rw [ba] at Ha
  have Hb := hide (fun w => binary_any b w)
  rw [bb] at Hb
  have So := hide (fun w => split_any o w (by omega))
  have Ko := lns_len_le o
  have Fo := congrArg List.length (lns_flat o)
  have Sa := hide (fun w => split_any a w (by omega))
  have Ka := lns_len_le a
  have Fa := congrArg List.length (lns_flat a)
  have Sb := hide (fun w => split_any b w (by omega))
  have Kb := lns_len_le b
  have Fb := congrArg List.length (lns_flat b)
  have Hfl := hide (mg_flat (o := lns o) (a := lns a) (b := lns b) (Nat.le_refl 60) (by omega) (by omega) (by omega) (by omega) (by omega) (by omega))
  have Hln := hide (mgL_len (o := lns o) (a := lns a) (b := lns b) (by omega) (by omega) (by omega))
  have HLn := hide (show ∀ (w1 : World) (A1 A2 A3 : Option Addr) (c1 c2 c3 : Nat), Vs w1 (fun k => k < w1.heap.size) A1 c1 (texts (lns o)) → Vs w1 (fun k => k < w1.heap.size) A2 c2 (texts (lns a)) → Vs w1 (fun k => k < w1.heap.size) A3 c3 (texts (lns b)) → _ from fun w1 A1 A2 A3 c1 c2 c3 v1 v2 v3 => mlines_any (w := w1) (Ao := A1) (Aa := A2) (Ab := A3) (co := c1) (ca := c2) (cb := c3) ⟨v1, v2, v3, by omega, by omega, by omega⟩ (fit_lns lo) (fit_lns la) (fit_lns lb))
  generalize mgL (lns o) (lns a) (lns b) = R at *
  generalize mgN (lns o) (lns a) (lns b) = n at *
  obtain ⟨no, hno⟩ : ∃ z, z = (lns o).length := ⟨_, rfl⟩
  obtain ⟨na, hna⟩ : ∃ z, z = (lns a).length := ⟨_, rfl⟩
  obtain ⟨nb, hnb⟩ : ∃ z, z = (lns b).length := ⟨_, rfl⟩
  rw [← hno, ← hna, ← hnb] at HLn
  have Hno := hide hno
  have Hna := hide hna
  have Hnb := hide hnb
  clear h h2 h3 bo ba bb lo la lb Ko Ka Kb Fo Fa Fb hno hna hnb
  go_enter Try.func12, Try.ntmps12
  go_wp2_with fail
  refine (Ho.out _).mono ?_
  rintro y w' ⟨rfl, rfl⟩
  go_wp2_with fail
  refine (Ha.out _).mono ?_
  rintro y w' ⟨rfl, rfl⟩
  go_wp2_with fail
  refine (Hb.out _).mono ?_
  rintro y w' ⟨rfl, rfl⟩
  go_wp2_with fail
  refine (So.out _).mono ?_
  rintro y w1 ⟨v1, rfl, ho1, hb1⟩
  replace ho1 : OwT w1 _ _ _ (lns o) := ho1
  obtain ⟨A1, c1, rfl, hv1⟩ := ho1.vs
  rw [← Hno.out]
  have Hv1 := hide hv1.bound
  have Hb1 := hide hb1
  clear ho1 hv1 hb1
  go_wp2_with fail
  refine (Sa.out _).mono ?_
  rintro y w2 ⟨v2, rfl, ho2, hb2⟩
  replace ho2 : OwT w2 _ _ _ (lns a) := ho2
  obtain ⟨A2, c2, rfl, hv2⟩ := ho2.vs
  rw [← Hna.out]
  have Hv2 := hide hv2.bound
  have Hb2 := hide hb2
  clear ho2 hv2 hb2
  go_wp2_with fail
  refine (Sb.out _).mono ?_
  rintro y w3 ⟨v3, rfl, ho3, hb3⟩
  replace ho3 : OwT w3 _ _ _ (lns b) := ho3
  obtain ⟨A3, c3, rfl, hv3⟩ := ho3.vs
  rw [← Hnb.out]
  have Hv3 := hide hv3.bound
  have Hb3 := hide hb3
  clear ho3 hv3 hb3
  go_wp2_with fail
  have Hb12 := hide (Hb1.out.trans (Hb2.out.mono Hb1.out.size))
  have Hb13 := hide (Hb12.out.trans (Hb3.out.mono Hb12.out.size))
  refine (HLn.out w3 A1 A2 A3 c1 c2 c3 (Lw.Vs.bound (Lw.Vs.below (Lw.Vs.below Hv1.out Hb2.out) Hb3.out)) (Lw.Vs.bound (Lw.Vs.below Hv2.out Hb3.out)) Hv3.out).mono ?_
  rintro y w4 ⟨v4, rfl, ho4, hb4⟩
  obtain ⟨A4, c4, rfl, hv4⟩ := ho4.vs
  have Hv4 := hide hv4
  have Hb4 := hide (Hb13.out.trans (hb4.mono Hb13.out.size))
  have HJ := hide (join_any R A4 c4 _ w4 hv4 Hln.out Hfl.out)
  obtain ⟨nr, hnr⟩ : ∃ z, z = R.length := ⟨_, rfl⟩
  rw [← hnr] at HJ ⊢
  clear ho4 hv4 hb4 hnr
  go_wp2_with fail
  refine HJ.out.mono ?_
  rintro y w5 ⟨rfl, hb5⟩
  have Hb5 := hide (Hb4.out.trans (hb5.mono Hb4.out.size))
  clear hb5
  go_wp2
  go_ret2
  exact ⟨rfl, Hb5.out⟩
theorem mtext_any (o a b : List UInt8) (w : World) (lo : o.length ≤ 60) (la : a.length ≤ 60) (lb : b.length ≤ 60) :
    Calls Try.prog 12 #[.string ⟨o.toArray⟩, .string ⟨a.toArray⟩, .string ⟨b.toArray⟩] w fun y w' => TextQ w y w' (mgT o a b) := by
  by_cases h : a = b
  · rw [mgT_same (.inl h)]; exact mtext_1 o a b w h
  · by_cases h2 : b = o
    · rw [mgT_same (.inr h2)]; exact mtext_2 o a b w h h2
    · have hn : ¬ (a = b ∨ b = o) := fun hh => hh.elim h h2
      by_cases h3 : a = o
      · rw [mgT_one hn h3]; exact mtext_3 o a b w h h2 h3
      · cases bo : binary o with
        | true => rw [mgT_bin hn h3 (by rw [bo]; rfl)]; exact mtext_4 o a b w h h2 h3 bo
        | false =>
          cases ba : binary a with
          | true => rw [mgT_bin hn h3 (by rw [bo, ba]; rfl)]; exact mtext_5 o a b w h h2 h3 bo ba
          | false =>
            cases bb : binary b with
            | true => rw [mgT_bin hn h3 (by rw [bo, ba, bb]; rfl)]; exact mtext_6 o a b w h h2 h3 bo ba bb
            | false => rw [mgT_lines hn h3 (by rw [bo, ba, bb]; rfl)]; exact mtext_7 o a b w h h2 h3 bo ba bb lo la lb
end Go.Proofs.Ytofccahgmkifjaa.Al
namespace Go.Proofs.Ytofccahgmkifjaa.Al
open Go Go.RowKit Kt Kg Lw Li Df

abbrev yO : Ls := [[49]]
abbrev yA : Ls := [[50]]
abbrev yB : Ls := [[51]]
theorem D_yA : D yO yA = [⟨0, 1, [[50]]⟩] := by
  have h1 : fr yO yA = 0 := by decide
  have h2 : bk yO yA = 0 := by decide
  have h3 : mid yO 0 0 = [[49]] := by decide
  have h4 : mid yA 0 0 = [[50]] := by decide
  unfold D
  rw [h1, h2, h3, h4, if_pos (by decide), go_both, if_neg (by decide), if_pos (by rw [lcs_nil_right]; exact Nat.zero_le _), go_come, go_nil]
  rfl
theorem D_yB : D yO yB = [⟨0, 1, [[51]]⟩] := by
  have h1 : fr yO yB = 0 := by decide
  have h2 : bk yO yB = 0 := by decide
  have h3 : mid yO 0 0 = [[49]] := by decide
  have h4 : mid yB 0 0 = [[51]] := by decide
  unfold D
  rw [h1, h2, h3, h4, if_pos (by decide), go_both, if_neg (by decide), if_pos (by rw [lcs_nil_right]; exact Nat.zero_le _), go_come, go_nil]
  rfl
abbrev zO : Ls := [[49, 10], [50, 10], [51, 10]]
abbrev zA : Ls := [[120, 10], [50, 10], [51, 10]]
abbrev zB : Ls := [[49, 10], [50, 10], [121, 10]]
theorem D_zA : D zO zA = [⟨0, 1, [[120, 10]]⟩] := by
  have h1 : fr zO zA = 0 := by decide
  have h2 : bk zO zA = 2 := by decide
  have h3 : mid zO 0 2 = [[49, 10]] := by decide
  have h4 : mid zA 0 2 = [[120, 10]] := by decide
  unfold D
  rw [h1, h2, h3, h4, if_pos (by decide), go_both, if_neg (by decide), if_pos (by rw [lcs_nil_right]; exact Nat.zero_le _), go_come, go_nil]
  rfl
theorem D_zB : D zO zB = [⟨2, 1, [[121, 10]]⟩] := by
  have h1 : fr zO zB = 2 := by decide
  have h2 : bk zO zB = 0 := by decide
  have h3 : mid zO 2 0 = [[51, 10]] := by decide
  have h4 : mid zB 2 0 = [[121, 10]] := by decide
  unfold D
  rw [h1, h2, h3, h4, if_pos (by decide), go_both, if_neg (by decide), if_pos (by rw [lcs_nil_right]; exact Nat.zero_le _), go_come, go_nil]
  rfl
theorem regs_y : regs yO yA yB = [⟨4, 0, 1, 0, 1, 0, 1⟩] := by
  unfold regs
  rw [D_yA, D_yB, mrg, if_pos (by decide), mrg, List.map_cons, List.map_nil, loop_cons]
  have g1 : grow ((Cl.zero 0).take false ⟨0, 1, [[50]]⟩) [(true, ⟨0, 1, [[51]]⟩)] = (⟨0, 1, 1, 0, 1, 0⟩, []) := by rfl
  simp only [g1]
  rw [loop_nil]
  decide
theorem regs_z : regs zO zA zB = [⟨1, 0, 1, 0, 1, 0, 1⟩, ⟨0, 1, 1, 1, 1, 1, 1⟩, ⟨2, 2, 1, 2, 1, 2, 1⟩] := by
  unfold regs
  rw [D_zA, D_zB, mrg, if_pos (by decide), mrg, List.map_cons, List.map_nil, loop_cons]
  have g1 : grow ((Cl.zero 0).take false ⟨0, 1, [[120, 10]]⟩) [(true, ⟨2, 1, [[121, 10]]⟩)] = (⟨0, 1, 1, 0, 0, 0⟩, [(true, ⟨2, 1, [[121, 10]]⟩)]) := by rfl
  simp only [g1]
  rw [loop_cons]
  have g2 : grow ((Cl.zero 2).take true ⟨2, 1, [[121, 10]]⟩) [] = (⟨2, 3, 0, 0, 1, 0⟩, []) := by rfl
  simp only [g2]
  rw [loop_nil]
  decide
theorem mgT_y : mgT [49] [50] [51] = ([60, 60, 60, 60, 60, 60, 60, 10, 50, 10, 124, 124, 124, 124, 124, 124, 124, 10, 49, 10, 61, 61, 61, 61, 61, 61, 61, 10, 51, 10, 62, 62, 62, 62, 62, 62, 62, 10], 1) := by
  rw [mgT_lines (by decide) (by decide) (by decide), show lns [49] = yO from by decide, show lns [50] = yA from by decide, show lns [51] = yB from by decide]
  unfold mgL mgN
  rw [regs_y]
  decide
theorem mgT_z : mgT [49, 10, 50, 10, 51, 10] [120, 10, 50, 10, 51, 10] [49, 10, 50, 10, 121, 10] = ([120, 10, 50, 10, 121, 10], 0) := by
  rw [mgT_lines (by decide) (by decide) (by decide), show lns [49, 10, 50, 10, 51, 10] = zO from by decide, show lns [120, 10, 50, 10, 51, 10] = zA from by decide, show lns [49, 10, 50, 10, 121, 10] = zB from by decide]
  unfold mgL mgN
  rw [regs_z]
  decide
set_option maxHeartbeats 2000000 in
set_option maxRecDepth 100000 in
theorem mawake_any (w : World) : Calls Try.prog 8 #[] w fun y w' => y = .returned (.bool true) ∧ Below w.heap.size w w' := by
  have H1 := hide (fun w => mtext_any [49] [50] [51] w (by decide) (by decide) (by decide))
  have H2 := hide (fun w => mtext_any [49, 10, 50, 10, 51, 10] [120, 10, 50, 10, 51, 10] [49, 10, 50, 10, 121, 10] w (by decide) (by decide) (by decide))
  rw [mgT_y] at H1
  rw [mgT_z] at H2
  go_enter Try.func8, Try.ntmps8
  go_wp2_with fail
  refine (H1.out w).mono ?_
  rintro y w1 ⟨rfl, hb1⟩
  have Hb1 := hide hb1
  clear hb1 H1
  go_wp2_with fail
  refine (H2.out w1).mono ?_
  rintro y w2 ⟨rfl, hb2⟩
  have Hb2 := hide (Hb1.out.trans (hb2.mono Hb1.out.size))
  clear hb2 H2
  go_wp2
  go_ret
  exact ⟨by simp, Hb2.out⟩
end Go.Proofs.Ytofccahgmkifjaa.Al
