/-
  unified: the reader's line.
-/
import Derived.Test.YtnehgogajghefaaGreatDoorUP
import Derived.Test.YtnehgogajghefaaGreatDoorRegC
namespace Go.Proofs.YtnehgogajghefaaGreatDoor.Un
open Go Go.RowKit Kt Lw Li Df Hu

/-- the last hunk's lines have grown: the row of hunks stands -/
theorem OP.grown {w w1 : World} {B go cap : Nat} {V : List (Hk × Value)} {e : Hk} {vi : Value} (h : OP w B go cap V e vi) (hg : w.grownBy w1 vi.ownBlock) : OH w1 B go cap V e vi := by
  refine ⟨World.ownsRow.kept h.out.row hg (.inr fun he => rowh_own h.out.row h.own he.symm), fun p hp => ?_⟩
  refine World.ownsRow.kept (h.out.rows p hp) hg ?_
  cases hv : vi.ownBlock with
  | none =>
    cases hp2 : p.2.ownBlock with
    | none => exact .inl rfl
    | some b => exact .inr (by simp)
  | some b => exact .inr (h.apart p hp b hv)
/-- a line more in the last hunk -/
theorem OP.more {w w1 : World} {B go cap : Nat} {V : List (Hk × Value)} {a an b bn : Int} {L : Ls} {x : List UInt8} {vi v1 : Value} {N : Nat} (hN : N = V.length) (h : OP w B go cap V ⟨a, an, b, bn, L⟩ vi) (ho : OwT w1 B tS v1 (L ++ [x])) (hg : w.grownBy w1 vi.ownBlock)
    (hbl : v1.ownBlock = vi.ownBlock ∨ ∃ b, v1.ownBlock = some b ∧ w.heap.size ≤ b) : OP (w1.setCell ⟨go, N * 5 + 4, none⟩ v1) B go cap V ⟨a, an, b, bn, L ++ [x]⟩ v1 := by
  have h1 := h.grown hg
  obtain ⟨h2, h3⟩ := h1.set hN 4 (by omega) v1
  refine ⟨⟨h2, fun p hp => h3 _ _ (h1.rows p hp)⟩, h3 _ _ ho, fun p hp b hb => ?_⟩
  rcases hbl with h4 | ⟨b', h4, h5⟩
  · exact h.apart p hp b (h4 ▸ hb)
  · intro h6
    have := (World.ownsRow.lt (h.out.rows p hp) b h6).2
    rw [h4] at hb
    injection hb with hb
    omega
set_option maxRecDepth 100000 in
set_option maxHeartbeats 4000000 in
theorem rline_any (B g : Nat) (s : St) (e : Hk) (V0 : List Hk) (x : List UInt8) (w : World) (h : RdM w B g (isW s) s) (hBw : B ≤ w.heap.size) (hrv0 : s.rv = e :: V0) (hx : x ≠ []) (hxl : x.length ≤ 1000000) (hn : s.rv.length ≤ 1000000) (hl : ∀ e ∈ s.rv, e.lines.length ≤ 1000000 ∧ ∀ y ∈ e.lines, y.length ≤ 1000000)
    (hob : (0 ≤ s.old ∧ s.old ≤ 4294967296) ∧ (0 ≤ s.fresh ∧ s.fresh ≤ 4294967296)) :
    Calls Tryz.prog 62 #[.pointer (some ⟨g, 0, none⟩), .string ⟨x.toArray⟩] w fun y w' => y = .returned (.bool (stepL s x).isSome) ∧ RdM w' B g (isW ((stepL s x).getD s)) ((stepL s x).getD s) ∧ Fg B g w w' := by
  have HS := hide (sides_any x hx w)
  have HK := hide (fun w' (hb : Below w.heap.size w w') => h.keep hb)
  have HNo := hide (noEnd_any B g s x w h hBw hn hl)
  have HA := hide (ahead_any B g (isW s) s w h hn (fun e he => (hl e he).1))
  have HC := hide (fun w' => closed_any x w' (by omega))
  have hgw : g < w.heap.size := h.ex.choose_spec.1.lt
  have Hn := hide hn
  have Hl := hide hl
  have Hrv0 := hide hrv0
  have hlx : 0 < x.length := List.length_pos_iff.2 hx
  have hsz := Hu.size_of x
  have hg0 := Hu.get_at x 0 (by rw [hsz]; exact hlx)
  rw [sg_get] at hg0
  have Hst := hide (show stepL s x = if (sds x).1 + (sds x).2 = 0 then noEnd s x else if closed x = true ∧ ¬ (sg x = 45 ∧ sg (ahd s.rv) = 43) ∧ (sds x).1 ≤ s.old ∧ (sds x).2 ≤ s.fresh then some ⟨⟨e.a, e.an, e.b, e.bn, e.lines ++ [x]⟩ :: V0, s.old - (sds x).1, s.fresh - (sds x).2⟩ else none by
    unfold stepL
    rw [hrv0])
  have hsd : ((sds x).1 = 0 ∨ (sds x).1 = 1) ∧ ((sds x).2 = 0 ∨ (sds x).2 = 1) := by
    unfold sds
    split
    · simp
    · split
      · simp
      · split <;> simp
  obtain ⟨o, ho⟩ : ∃ o, o = (sds x).1 := ⟨_, rfl⟩
  obtain ⟨f, hf⟩ : ∃ f, f = (sds x).2 := ⟨_, rfl⟩
  rw [← ho, ← hf] at HS Hst hsd
  have hwr : IntKind.i64.wrap (o + f) = o + f := IntWalk.i64_in _ (by omega)
  clear h hn hl hrv0 hx ho hf
  by_cases hz : o + f = 0
  · have Hst2 := hide (show stepL s x = noEnd s x by rw [Hst.out, if_pos hz])
    have Hw := hide (show isW ((noEnd s x).getD s) = isW s by
      unfold noEnd
      cases hq : s.rv with
      | nil => rfl
      | cons e V => simp only; split <;> rfl)
    have hzb : ((o + f : Int) == 0) = true := by rw [hz]; rfl
    rw [Hst2.out, Hw.out]
    generalize (noEnd s x).getD s = s' at *
    generalize (noEnd s x).isSome = r at *
    clear Hst Hst2 hz HK HA HC Hl
    go_enter Tryz.func62, Tryz.ntmps62
    go_wp2_with fail
    refine HS.out.mono ?_
    rintro y w1 ⟨rfl, rfl⟩
    go_wp2_with fail
    refine HNo.out.mono ?_
    rintro y w2 ⟨rfl, hrd, hb⟩
    have Hrd := hide hrd
    have Hb := hide hb
    clear hrd hb
    go_wp2
    go_ret
    exact ⟨rfl, Hrd.out, Fg.of Hb.out⟩
  · have hzb : ((o + f : Int) == 0) = false := beq_eq_false_iff_ne.2 hz
    rw [if_neg hz] at Hst
    obtain ⟨bh, hbh⟩ : ∃ bh : Bool, bh = decide (sg x = 45 ∧ sg (ahd s.rv) = 43) := ⟨_, rfl⟩
    have Hbh := hide hbh
    clear hbh hz HNo
    go_enter Tryz.func62, Tryz.ntmps62
    go_wp2_with fail
    refine HS.out.mono ?_
    rintro y w1 ⟨rfl, rfl⟩
    go_upto_region 4 with fail
    go_cut [7] from 10 (fun u7 wx => u7 = .bool bh ∧ Below w1.heap.size w1 wx)
    case first =>
      by_cases h45 : sg x = 45
      · have HP := hide (fun w' => Tryz.strings_HasPrefix ⟨(ahd s.rv).toArray⟩ ⟨#[43]⟩ w')
        have HP := hide (show ∀ w', Calls Tryz.prog 71 #[.string ⟨(ahd s.rv).toArray⟩, .string ⟨#[43]⟩] w' fun e w'' => e = .returned (.bool bh) ∧ w'' = w' from by
          have e : bh = Lib.hasPrefix (ahd s.rv) [43] := by rw [Hbh.out, prefix_sg]; simp [h45]
          rw [e]; exact HP.out)
        rw [h45] at hg0
        generalize ahd s.rv = a at *
        go_wp2_with fail
        refine HA.out.mono ?_
        rintro y w2 ⟨rfl, hb2⟩
        have Hb2 := hide hb2
        clear hb2
        go_wp2_with fail
        refine (HP.out _).mono ?_
        rintro y w3 ⟨rfl, rfl⟩
        go_wp2
        go_meet
        exact ⟨rfl, Hb2.out⟩
      · have e45 : (((sg x).toNat : Int) == 45) = false := u8_ne h45
        have hbf : bh = false := by rw [Hbh.out]; exact decide_eq_false fun h => h45 h.1
        go_wp2
        go_meet
        exact ⟨by rw [hbf], Below.refl _ _⟩
    case rest =>
      obtain ⟨rfl, hb⟩ := hcut
      have Hb := hide hb
      clear hb HS hg0
      obtain ⟨v, hrow, hrv⟩ := (HK.out wc Hb.out).ex
      rw [Hrv0.out] at hrv
      obtain ⟨go, cap, V, vi, rfl, hV, hop⟩ := hrv
      have c1 := hrow.cell 1
      have c2 := hrow.cell 2
      have c3 := hrow.cell 3
      simp only [List.getElem?_cons_zero, List.getElem?_cons_succ] at c1 c2 c3
      obtain ⟨N, hN⟩ : ∃ N, N = V.length := ⟨_, rfl⟩
      have hNl : N ≤ 1000000 := by
        have h1 := congrArg List.length hV
        have h2 := Hn.out
        rw [Hrv0.out] at h2
        simp at h1 h2
        omega
      have d4 := (hop.out.cell hN 4 (by omega)).1
      simp only [hkC, List.getElem?_cons_succ, List.getElem?_cons_zero] at d4
      have hcap : N + 1 ≤ cap := by have := hop.out.lt.2.2; omega
      rw [← hN] at c1
      obtain ⟨M, hM⟩ : ∃ M, M = N + 1 := ⟨_, rfl⟩
      rw [← hM] at c1 hcap
      have hwM : IntKind.i64.wrap ((M : Int) - 1) = (N : Int) := by rw [IntWalk.i64_in _ (by omega)]; omega
      have hnM : N < M := by omega
      obtain ⟨oo, hoo⟩ : ∃ oo, oo = s.old := ⟨_, rfl⟩
      obtain ⟨ff, hff⟩ : ∃ ff, ff = s.fresh := ⟨_, rfl⟩
      rw [← hoo, ← hff] at Hst
      rw [← hoo] at c2
      rw [← hff] at c3
      have Hoo := hide hoo
      have Hff := hide hff
      have hob1 : (0 ≤ oo ∧ oo ≤ 4294967296) ∧ (0 ≤ ff ∧ ff ≤ 4294967296) := by rw [hoo, hff]; exact hob
      obtain ⟨Ai, ni, ci, hvi⟩ := owt_form hop.own
      subst hvi
      have Hop := hide hop
      have Hrow := hide hrow
      have HV := hide hV
      have HN := hide hN
      have HM := hide hM
      clear hop hrow hV hN hM hoo hff hob HA
      have hbhP : bh = true ↔ (sg x = 45 ∧ sg (ahd s.rv) = 43) := by rw [Hbh.out, decide_eq_true_iff]
      have HbhP := hide hbhP
      clear hbhP Hbh
      cases hcl : closed x with
      | false =>
        rw [hcl] at HC Hst
        have Hno := hide (show stepL s x = none by rw [Hst.out]; exact if_neg (fun h => by cases h.1))
        clear Hst
        go_wp2_with fail
        refine (HC.out _).mono ?_
        rintro y w2 ⟨rfl, rfl⟩
        go_wp2
        go_ret
        exact ⟨by rw [Hno.out]; rfl, by rw [Hno.out]; exact HK.out _ Hb.out, Fg.of (Hb.out.mono hBw)⟩
      | true =>
        rw [hcl] at HC Hst
        cases bh with
        | true =>
          have Hno := hide (show stepL s x = none by rw [Hst.out]; exact if_neg (fun h => h.2.1 (HbhP.out.1 rfl)))
          clear Hst
          go_wp2_with fail
          refine (HC.out _).mono ?_
          rintro y w2 ⟨rfl, rfl⟩
          go_wp2
          go_ret
          exact ⟨by rw [Hno.out]; rfl, by rw [Hno.out]; exact HK.out _ Hb.out, Fg.of (Hb.out.mono hBw)⟩
        | false =>
          by_cases h1 : o ≤ oo
          · by_cases h2 : f ≤ ff
            · have hd1 : decide (oo < o) = false := decide_eq_false (by omega)
              have hd2 : decide (ff < f) = false := decide_eq_false (by omega)
              have Hyes := hide (show stepL s x = some ⟨⟨e.a, e.an, e.b, e.bn, e.lines ++ [x]⟩ :: V0, oo - o, ff - f⟩ by
                rw [Hst.out, Hoo.out, Hff.out]
                exact if_pos ⟨rfl, fun h => absurd (HbhP.out.2 h) (by simp), by rw [← Hoo.out]; exact h1, by rw [← Hff.out]; exact h2⟩)
              have hs1 : IntKind.i64.wrap (oo - o) = oo - o := IntWalk.i64_in _ (by omega)
              have hs2 : IntKind.i64.wrap (ff - f) = ff - f := IntWalk.i64_in _ (by omega)
              clear Hst HbhP
              go_wp2_with fail
              refine (HC.out _).mono ?_
              rintro y w2 ⟨rfl, rfl⟩
              go_wp2
              go_quiet (fail)
              have Hlen := hide (show e.lines.length ≤ 1000000 from (Hl.out e (by rw [Hrv0.out]; exact List.mem_cons_self)).1)
              have hbq := below_drewN (Below.refl w2.heap.size w2) nq
              have Hopq := hide (Hop.out.keep hbq)
              have Hrowq := hide (Hrow.out.below hbq Hrow.out.lt)
              have Hbq := hide (Hb.out.trans (hbq.mono Hb.out.size))
              have k4 := cell_keep hbq d4
              clear hbq d4 c1 c2 c3 Hop Hrow
              generalize World.drewN w2 nq = w3 at *
              go_wp2_with (refine wpList_pushT rfl (.tmp 66) (.tmp 68) rfl B w3 (.slice Ai ni ci) e.lines x _ rfl rfl rfl Hopq.out.own (by have := Hlen.out; omega) (Below.refl _ _) (by have := Hbq.out.size; omega) ?_; intro v7 w7 hv7 hb7 hg7 hbl7; have k7 := ((Hopq.out.grown hg7).cell HN.out 4 (by omega)).1; have k8 := ((Hopq.out.grown hg7).cell HN.out 4 (by omega)).2; simp only [hkC, List.getElem?_cons_succ, List.getElem?_cons_zero] at k7; obtain ⟨A7, n7, c7, rfl⟩ := owt_form hv7; have Hop8 := hide (OP.more (a := e.a) (an := e.an) (b := e.b) (bn := e.bn) (L := e.lines) HN.out Hopq.out hv7 hg7 (hbl7.imp id fun h => ⟨_, h, Nat.le_succ _⟩)); have Hrow7 := hide (Hrowq.out.grown hg7 (fun he => own_ne Hopq.out.own Hrowq.out tS_tR he.symm)); have Hb7 := hide ((Hbq.out.mono hBw).trans hb7); have hggo : g ≠ go := (fun he => own_ne Hopq.out.out.row Hrowq.out tH_tR (by rw [he]; rfl)); have hgoB := Hopq.out.out.lt.1; clear hv7 hb7 hg7 hbl7 k4)
              go_upto_region 9 with fail
              clear k7 k8
              have hr8 := Hrow7.out.off hggo (i := N * 5 + 4) (.slice A7 n7 c7)
              have hb8 := Hb7.out.setCell (p := ⟨go, N * 5 + 4, none⟩) hgoB (.slice A7 n7 c7)
              obtain ⟨w8, hw8⟩ : ∃ w8, w8 = w7.setCell ⟨go, N * 5 + 4, none⟩ (.slice A7 n7 c7) := ⟨_, rfl⟩
              rw [← hw8] at hr8 hb8 Hop8 ⊢
              have m2 := hr8.drew.cell 2
              have m3 := hr8.drew.cell 3
              simp only [List.getElem?_cons_zero, List.getElem?_cons_succ] at m2 m3
              rw [← Hoo.out] at m2
              rw [← Hff.out] at m3
              have HLa := hide (lack_any g _ _ _ _ (oo - o) (ff - f) w8.drew hr8.drew)
              have Hr8 := hide hr8
              have Hb8 := hide hb8
              clear hr8 hb8 hw8 Hrow7 Hb7
              refine Rc.wp_region_ord (fun w' => w'.cell? ⟨g, 2, none⟩ = some (.int .i64 oo) ∧ w'.cell? ⟨g, 3, none⟩ = some (.int .i64 ff)) [(0, true), (1, true), (2, true), (3, true), (4, true), (5, true), (6, true), (7, true), (8, true), (9, true), (10, true), (11, true), (12, true), (13, false)] (by kernel_rfl) (by kernel_rfl) ?_
              simp only [Rg.pick, List.map_cons, List.map_nil, List.getD_cons_zero, List.getD_cons_succ]
              iterate 13 (refine Rc.ord_quiet (v := ?_) rfl (fun w' hS => ?_) ⟨m2, m3⟩ ?_; rotate_left; (obtain ⟨s2, s3⟩ := hS; go_simp; with_reducible rfl); simp only [Act.put, List.setIfInBounds_toArray, List.set_cons_succ, List.set_cons_zero])
              refine Rc.ord_loud rfl (fun K hK => ?_)
              go_simp
              refine HLa.out.mono ?_
              rintro y9 w9 ⟨rfl, hr9, hg9⟩
              refine hK _ _ (fun hf => absurd (show Rc.sink _ 13 = true from by kernel_rfl) (by rw [hf]; decide)) ?_
              clear hK K m2 m3
              have hrv8 : Rv w8 B (.slice (some ⟨go, 0, none⟩) M cap) (⟨e.a, e.an, e.b, e.bn, e.lines ++ [x]⟩ :: V0) := ⟨go, cap, V, _, by rw [HM.out, HN.out], HV.out, Hop8.out⟩
              have Hrv9 := hide ((hrv8.keep (Below.refl _ w8).drew).off Hr8.out.drew hg9)
              have Hr9 := hide hr9
              have Hb9 := hide ((Fg.of (g := g) Hb8.out.drew).grown (Nat.le_trans hBw Hb8.out.drew.size) hg9)
              have HMV := hide (show M = V.length + 1 by rw [HM.out, HN.out])
              clear hr9 hg9 Hr8 Hb8 HLa hrv8
              refine Rc.ord_nil ?_
              go_wp2
              go_ret
              refine ⟨by rw [Hyes.out]; rfl, ?_, Hb9.out⟩
              rw [Hyes.out]
              refine ⟨⟨_, ?_, Hrv9.out⟩⟩
              rw [HMV.out]
              exact Hr9.out
            · have hd1 : decide (oo < o) = false := decide_eq_false (by omega)
              have hd2 : decide (ff < f) = true := decide_eq_true (by omega)
              have Hno := hide (show stepL s x = none by rw [Hst.out]; exact if_neg (fun h => h2 h.2.2.2))
              clear Hst
              go_wp2_with fail
              refine (HC.out _).mono ?_
              rintro y w2 ⟨rfl, rfl⟩
              go_wp2
              go_ret
              exact ⟨by rw [Hno.out]; rfl, by rw [Hno.out]; exact HK.out _ Hb.out, Fg.of (Hb.out.mono hBw)⟩
          · have hd1 : decide (oo < o) = true := decide_eq_true (by omega)
            have Hno := hide (show stepL s x = none by rw [Hst.out]; exact if_neg (fun h => h1 h.2.2.1))
            clear Hst
            go_wp2_with fail
            refine (HC.out _).mono ?_
            rintro y w2 ⟨rfl, rfl⟩
            go_wp2
            go_ret
            exact ⟨by rw [Hno.out]; rfl, by rw [Hno.out]; exact HK.out _ Hb.out, Fg.of (Hb.out.mono hBw)⟩
end Go.Proofs.YtnehgogajghefaaGreatDoor.Un
