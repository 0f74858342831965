/-
  The document's graph in memory: a row of nodes that grows; Add.
-/
import Derived.Test.YtplmcpdlommmaaaDT
namespace Go.Proofs.Ytplmcpdlommmaaa.Dq
open Go Go.RowKit Kt Kg Lw Tr

def lenA : Value → Nat
  | .slice _ n _ => n
  | _ => 0
set_option maxRecDepth 100000 in
set_option maxHeartbeats 4000000 in
theorem radd_any {w : World} {S : Nat → Prop} {g : Nat} {D : List Nd} (h : RdIn w S g D) (hK : Okd D) (hl : D.length < 40) (id : Bs) (ps : List Bs) (A : Option Addr) (c : Nat) (Pb : Nat → Prop) (hv : Vs w Pb A c (texts ps)) (hi : id.length ≤ 50)
    (hp : ps.length ≤ 10 ∧ ∀ p ∈ ps, p.length ≤ 50) :
    Calls Try.prog 13 #[pt g, .string ⟨id.toArray⟩, .slice A ps.length c] w fun y w' => ∃ v S', y = .returned v ∧ OwT w' w.heap.size tId v (Dq.add D id ps).2 ∧ RdIn w' S' g (Dq.add D id ps).1 ∧
      Oth S w w' ∧ (∀ k, S' k → S k ∨ w.heap.size ≤ k) ∧ ∀ k, v.ownBlock = some k → ¬ S' k := by
  have HF := hide (rfind_any h (by omega) id)
  have HR := hide h
  have HK := hide hK
  rcases fnd_get (D := D) (id := id) with ⟨i, n, e1, e2, e3, e4, e5⟩ | ⟨e1, e2⟩
  · have HE := hide (add_known (D := D) (id := id) (by rw [e4]; rfl) ps)
    rw [e1] at HF
    have d1 : decide ((0 : Int) ≤ (i : Int)) = true := decide_eq_true (by omega)
    have hi' : (i : Int) < 9223372036854775807 := by omega
    clear h hK e1 e2 e3 e4 e5 hv hp hi hl
    go_enter Try.func13, Try.ntmps13
    go_wp2_with fail
    refine HF.out.mono ?_
    rintro e w1 ⟨rfl, rfl⟩
    go_wp2
    go_ret
    exact ⟨_, S, rfl, by rw [HE.out]; exact OwT.nil _ _ _, by rw [HE.out]; exact HR.out, Oth.refl _ _, fun k hk => .inl hk, fun k hk => by cases hk⟩
  · have HS := hide (rsorted_any ps A c Pb w hv (by omega) (fun y hy => by have := hp.2 y hy; omega))
    rw [e1] at HF
    have HG := hide e2
    clear h hK e1 e2 hv
    go_enter Try.func13, Try.ntmps13
    go_wp2_with fail
    refine HF.out.mono ?_
    rintro e w1 ⟨rfl, rfl⟩
    go_wp2_with fail
    refine HS.out.mono ?_
    rintro e w2 ⟨v2, rfl, ho2, hb2⟩
    obtain ⟨A1, c1, rfl, hv1, hin1⟩ := own_vs ho2
    have hRD := HR.out.below hb2
    have HD2 := hide hRD
    have HIn := hide hin1
    have HVs1 := hide hv1
    have HO2 := hide ho2
    have HB2 := hide hb2
    obtain ⟨M, hM⟩ : ∃ M, M = (sortIds ps).length := ⟨_, rfl⟩
    rw [← hM] at HIn HO2
    have HM := hide hM
    have hRr := rready_any (hRD.below ((Below.refl _ w2).alloc (Nat.le_refl _) (.cells #[.string ⟨id.toArray⟩, .slice A1 (sortIds ps).length c1, .bool false] tNd))) (by omega) (sortIds ps) A1 c1 _ (vs_keep hv1 ((Below.refl _ w2).alloc (Nat.le_refl _) _)) (by rw [hM] at *; have := sortIds_len ps; omega)
    rw [← hM] at hRr ⊢
    have HRr := hide hRr
    clear HF HS hRD hin1 hv1 ho2 hb2 hM hRr
    go_wp2_with fail
    refine HRr.out.mono ?_
    rintro e w3 ⟨rfl, rfl⟩
    obtain ⟨r, hr⟩ : ∃ r, r = ready D (sortIds ps) := ⟨_, rfl⟩
    rw [← hr]
    have HRy := hide hr
    clear HRr hr
    go_wp2
    obtain ⟨q, hq⟩ : ∃ q, q = w2.heap.size := ⟨_, rfl⟩
    obtain ⟨w4, hw4⟩ : ∃ z, z = w2.alloc (.cells #[.string ⟨id.toArray⟩, .slice A1 M c1, .bool r] tNd) := ⟨_, rfl⟩
    rw [← hq, ← hw4]
    have HRow := hide (show Row w4 q tNd (ndC ⟨id, sortIds ps, r⟩ (.slice A1 M c1)) from by rw [hw4, hq]; exact Row.fresh w2 tNd #[.string ⟨id.toArray⟩, .slice A1 M c1, .bool r])
    have HB24 := hide (show Below w2.heap.size w2 w4 from by rw [hw4]; exact (Below.refl _ w2).alloc (Nat.le_refl _) _)
    have HQ := hide (show q = w2.heap.size ∧ w2.heap.size < w4.heap.size from ⟨hq, by rw [hw4]; simp⟩)
    clear hq hw4
    have HD4 := hide (HD2.out.below HB24.out)
    have HIn4 := hide (vs_move HIn.out fun b hb => HB24.out.block b (World.ownsRow.lt HO2.out b hb).2)
    -- the cells of the graph's nodes, in every world behind
    obtain ⟨Ag, cg, k0, hr0⟩ := HD4.out.rd
    have HCg := hide (show ∀ wz, Below w4.heap.size w4 wz → wz.cell? ⟨g, 0, none⟩ = some (.slice Ag D.length cg) from fun wz hz => (World.cell?_of_block (hz.block _ (World.block_lt_of_cell? _ _ k0))).trans k0)
    have HC := hide (show ∀ j n, D[j]? = some n → ∃ b A' c', Ag = some ⟨b, 0, none⟩ ∧ Vs w4 S A' c' (texts n.ps) ∧ ∀ wz, Below w4.heap.size w4 wz → wz.cell? ⟨b, j * 3, none⟩ = some (.string ⟨n.id.toArray⟩) ∧ wz.cell? ⟨b, j * 3 + 1, none⟩ = some (.slice A' n.ps.length c') ∧ wz.cell? ⟨b, j * 3 + 2, none⟩ = some (.bool n.on) from by
      intro j n hj
      obtain ⟨b, A', c', e, k1, k2, k3, k4⟩ := hr0 j n hj
      have hb := World.block_lt_of_cell? _ _ k1
      exact ⟨b, A', c', e, k4, fun wz hz => ⟨(World.cell?_of_block (hz.block b hb)).trans k1, (World.cell?_of_block (hz.block b hb)).trans k2, (World.cell?_of_block (hz.block b hb)).trans k3⟩⟩)
    clear k0 hr0
    have HX := hide (show ∀ wz, Below w4.heap.size w4 wz → wz.cell? ⟨q, 0, none⟩ = some (.string ⟨id.toArray⟩) ∧ wz.cell? ⟨q, 1, none⟩ = some (.slice A1 M c1) ∧ wz.cell? ⟨q, 2, none⟩ = some (.bool r) from fun wz hz => by
      have h := HRow.out.below hz HRow.out.lt
      exact ⟨h.cell 0, h.cell 1, h.cell 2⟩)
    obtain ⟨N, hN⟩ : ∃ N, N = D.length := ⟨_, rfl⟩
    rw [← hN] at HCg hl
    have HN := hide hN
    have Hids := hide (show ∀ n ∈ D, n.id.length ≤ 50 from fun n hn => (HK.out.ids n hn).1)
    obtain ⟨x, hx⟩ : ∃ x : Nd, x = ⟨id, sortIds ps, r⟩ := ⟨_, rfl⟩
    have HXe := hide hx
    have HXid := hide (show x.id = id from by rw [hx])
    rw [← hx] at HRow
    obtain ⟨P, hP⟩ : ∃ P : Nd × Value → Prop, P = fun p => (∃ A c, p.2 = .slice A p.1.ps.length c ∧ Vs w4 S A c (texts p.1.ps)) ∨ p = (x, .slice A1 M c1) := ⟨_, rfl⟩
    have HP := hide hP
    clear hN hx hP
    go_loopw [8, 9, 10] (fun lv dv i wr => ∃ (k : Nat) (V : List (Nd × Value)) (d : Bool) (ov : Value), ov = lv ∧ dv = .bool d ∧ i = .int .i64 k ∧ k ≤ N ∧ V.length ≤ k + d.toNat ∧ Hid (V.map (·.1) ++ insGo x d (D.drop k) = insN x D) ∧ Hid (∀ p ∈ V, P p) ∧ Hid (NdR wr w4.heap.size ov V) ∧ Hid (Below w4.heap.size w4 wr)) (fun _ _ i _ => N - (intOf i).toNat)
    case atStart => exact ⟨0, [], false, _, rfl, rfl, rfl, Nat.zero_le _, Nat.zero_le _, by show Hid _; exact hide (by simp [insGo]), by show Hid _; exact hide (fun p hp => by cases hp), by show Hid _; exact hide (NdR.nil _ _), by show Hid _; exact hide (Below.refl _ _)⟩
    case round =>
      obtain ⟨k, V, d, ov, rfl, rfl, rfl, hk, hol, HE, HV, HO, HB⟩ := hrel
      have hol2 : V.length ≤ k + 1 := by have := Bool.toNat_le d; omega
      have hg := HCg.out wr HB.out
      by_cases hlt : k < N
      · obtain ⟨n, hnk⟩ : ∃ z, D[k]? = some z := ⟨_, List.getElem?_eq_getElem (by have := HN.out; omega)⟩
        obtain ⟨b, A', c', rfl, k4, hcc⟩ := HC.out k n hnk
        obtain ⟨m, hm⟩ : ∃ m, m = n.ps.length := ⟨_, rfl⟩
        rw [← hm] at hcc
        have HCc := hide hcc
        obtain ⟨k1, k2, k3⟩ := hcc wr HB.out
        have HD := hide (drop_at hnk)
        have HIl := hide (Hids.out n (List.mem_of_getElem? hnk))
        have HPn := hide (show P (n, .slice A' m c') from by rw [HP.out]; exact .inl ⟨A', c', by rw [hm], k4⟩)
        clear hnk hm k4 hcc
        have hlen1 : V.length + 1 ≤ 1000000000 := by omega
        cases d with
        | true =>
          have HE2 := hide (show (V ++ [(n, Value.slice A' m c')]).map (·.1) ++ insGo x true (D.drop (k + 1)) = insN x D from by rw [← HE.out, HD.out, insGo_yes, List.map_append, List.append_assoc]; rfl)
          have HV2 := hide (show ∀ p ∈ V ++ [(n, Value.slice A' m c')], P p from fun p hp => (List.mem_append.1 hp).elim (HV.out p) fun h => by rw [List.mem_singleton.1 h]; exact HPn.out)
          clear HE
          go_wp2_with (at_builtin; go_loud (refine wpList_pushN rfl (.tmp 54) (.tmp 62) rfl w4.heap.size w4 _ _ V n _ rfl rfl rfl HO.out rfl hlen1 HB.out HB.out.size ?_; intro v6 w6 hown6 hb6; have HO6 := hide hown6; have HB6 := hide hb6; clear hown6 hb6))
          exact ⟨⟨k + 1, V ++ [(n, .slice A' m c')], true, _, rfl, rfl, by go_num, by omega, by rw [List.length_append, List.length_cons, List.length_nil, Bool.toNat_true]; omega, by show Hid _; exact HE2, by show Hid _; exact HV2, by show Hid _; exact HO6, by show Hid _; exact HB6⟩, by simp [intOf]; omega⟩
        | false =>
          have HLs := hide (rless_any id n.id wr (by omega) (by have := HIl.out; omega))
          go_wp2_with fail
          refine HLs.out.mono ?_
          rintro e w5 ⟨rfl, hb5⟩
          have HB5 := hide (HB.out.trans (hb5.mono HB.out.size))
          have HO5 := hide (HO.out.kept hb5)
          clear hb5 HLs hg k1 k2 k3
          have hg := HCg.out w5 HB5.out
          obtain ⟨k1, k2, k3⟩ := HCc.out w5 HB5.out
          cases hlx : Tr.lt id n.id with
          | true =>
            have HE2 := hide (show ((V ++ [(x, Value.slice A1 M c1)]) ++ [(n, Value.slice A' m c')]).map (·.1) ++ insGo x true (D.drop (k + 1)) = insN x D from by rw [← HE.out, HD.out, insGo_lt (by rw [HXid.out]; exact hlx), List.map_append, List.map_append, List.append_assoc, List.append_assoc]; rfl)
            have HV2 := hide (show ∀ p ∈ (V ++ [(x, Value.slice A1 M c1)]) ++ [(n, Value.slice A' m c')], P p from fun p hp => (List.mem_append.1 hp).elim (fun hp => (List.mem_append.1 hp).elim (HV.out p) fun h => by rw [List.mem_singleton.1 h, HP.out]; exact .inr rfl) fun h => by rw [List.mem_singleton.1 h]; exact HPn.out)
            have hlen2 : (V ++ [(x, Value.slice A1 M c1)]).length + 1 ≤ 1000000000 := by rw [List.length_append, List.length_cons, List.length_nil]; omega
            obtain ⟨x1, x2, x3⟩ := HX.out w5 HB5.out
            have tok1 : True := trivial
            clear HE hlx
            go_wp2_with (first
              | (have _t := tok1; at_builtin; go_loud (refine wpList_pushN rfl (.tmp 50) (.tmp 52) rfl w4.heap.size w4 _ (.slice A1 M c1) V x _ rfl rfl (by rw [HXe.out]; rfl) HO5.out rfl hlen1 HB5.out HB5.out.size ?_; intro v6 w6 hown6 hb6; have HO6 := hide hown6; have HB6 := hide hb6; have hg6 := HCg.out w6 HB6.out; obtain ⟨j1, j2, j3⟩ := HCc.out w6 HB6.out; clear tok1 hg k1 k2 k3; clear hown6 hb6))
              | (at_builtin; go_loud (refine wpList_pushN rfl (.tmp 54) (.tmp 62) rfl w4.heap.size w4 _ (.slice A' m c') (V ++ [(x, Value.slice A1 M c1)]) n _ rfl rfl rfl HO6.out rfl hlen2 HB6.out HB6.out.size ?_; intro v7 w7 hown7 hb7; have HO7 := hide hown7; have HB7 := hide hb7; clear hown7 hb7)))
            exact ⟨⟨k + 1, (V ++ [(x, .slice A1 M c1)]) ++ [(n, .slice A' m c')], true, _, rfl, rfl, by go_num, by omega, by rw [List.length_append, List.length_append, List.length_cons, List.length_nil, List.length_cons, List.length_nil, Bool.toNat_true]; rw [Bool.toNat_false] at hol; omega, by show Hid _; exact HE2, by show Hid _; exact HV2, by show Hid _; exact HO7, by show Hid _; exact HB7⟩, by simp [intOf]; omega⟩
          | false =>
            have HE2 := hide (show (V ++ [(n, Value.slice A' m c')]).map (·.1) ++ insGo x false (D.drop (k + 1)) = insN x D from by rw [← HE.out, HD.out, insGo_ge (by rw [HXid.out]; exact hlx), List.map_append, List.append_assoc]; rfl)
            have HV2 := hide (show ∀ p ∈ V ++ [(n, Value.slice A' m c')], P p from fun p hp => (List.mem_append.1 hp).elim (HV.out p) fun h => by rw [List.mem_singleton.1 h]; exact HPn.out)
            clear HE hlx
            go_wp2_with (at_builtin; go_loud (refine wpList_pushN rfl (.tmp 54) (.tmp 62) rfl w4.heap.size w4 _ (.slice A' m c') V n _ rfl rfl rfl HO5.out rfl hlen1 HB5.out HB5.out.size ?_; intro v6 w6 hown6 hb6; have HO6 := hide hown6; have HB6 := hide hb6; clear hown6 hb6))
            exact ⟨⟨k + 1, V ++ [(n, .slice A' m c')], false, _, rfl, rfl, by go_num, by omega, by rw [List.length_append, List.length_cons, List.length_nil]; have := hol; rw [Bool.toNat_false] at *; omega, by show Hid _; exact HE2, by show Hid _; exact HV2, by show Hid _; exact HO6, by show Hid _; exact HB6⟩, by simp [intOf]; omega⟩
      · obtain rfl : k = N := by omega
        have HE2 := hide (show V.map (·.1) ++ insGo x d [] = insN x D from by have := HE.out; rwa [HN.out, List.drop_length] at this)
        clear HE hlt hk hol hol2
        have hlen1 : V.length + 1 ≤ 1000000000 := by have := congrArg List.length HE2.out; rw [List.length_append, List.length_map, insN_len] at this; have := HN.out; omega
        cases d with
        | true =>
          have HE3 := hide (show V.map (·.1) = insN x D from by rw [← HE2.out]; simp [insGo])
          clear HE2 hlen1
          have HE2 := HE3
          have HV2 := HV
          clear HE3 HV
          have HVl := hide (show V.length = k + 1 from by have := congrArg List.length HE2.out; rw [List.length_map, insN_len] at this; have := HN.out; omega)
          obtain ⟨gl, cl, rfl, hgl1, hgl2⟩ : ∃ gl cl, ov = .slice (some ⟨gl, 0, none⟩) (k + 1) cl ∧ w4.heap.size ≤ gl ∧ gl < wr.heap.size := by
            rcases HO.out.2 with ⟨_, hz⟩ | ⟨gl, cap, cur, hvv, h1, h2, _⟩
            · have := HVl.out; omega
            · exact ⟨gl, cap, by rw [hvv, HVl.out], h1, (Array.getElem?_eq_some_iff.1 h2).1⟩
          obtain ⟨T, hT⟩ : ∃ T : Nat → Prop, T = fun k => S k ∨ (Value.slice A1 M c1).ownBlock = some k ∨ k = gl := ⟨_, rfl⟩
          have HDw := HD4.out.below HB.out
          have hgw4 := HD4.out.lt _ HD4.out.at
          have HA1 := hide (show ∀ b, (Value.slice A1 M c1).ownBlock = some b → w2.heap.size ≤ b + (w2.heap.size - w1.heap.size) ∧ w1.heap.size ≤ b ∧ b < w2.heap.size from fun b hb => by have := World.ownsRow.lt HO2.out b hb; omega)
          have hR7 : RdIn (wr.setCell ⟨g, 0, none⟩ (.slice (some ⟨gl, 0, none⟩) (k + 1) cl)) T g (insN x D) := by
            rw [← HE2.out]
            refine HDw.take HO.out (fun p hp => ?_) (fun k hk => by rw [hT]; exact .inl hk) (fun b hb => ?_) fun k hk => ?_
            · have := HV2.out p hp
              rw [HP.out] at this
              rcases this with ⟨A, c, e, k⟩ | rfl
              · exact ⟨A, c, e, vs_imp (vs_move k fun b hb => HB.out.block b (HD4.out.lt b hb)) fun b _ hb => by rw [hT]; exact .inl hb⟩
              · refine ⟨A1, c1, by rw [HXe.out, HM.out], ?_⟩
                rw [HXe.out]
                refine vs_imp (vs_move HIn4.out fun b hb => HB.out.block b ?_) fun b _ hb => by rw [hT]; exact .inr (.inl hb)
                have := HA1.out b hb
                have := HQ.out.2
                omega
            · injection hb with hb
              have hb : gl = b := hb
              subst hb
              exact ⟨by rw [hT]; exact .inr (.inr rfl), by omega⟩
            · rw [hT] at hk
              have h24 := HB24.out.size
              have hs := HB.out.size
              rcases hk with hk | hk | hk
              · have := HD4.out.lt k hk; omega
              · have := HA1.out k hk; omega
              · omega
          have hO7 : Oth S w1 (wr.setCell ⟨g, 0, none⟩ (.slice (some ⟨gl, 0, none⟩) (k + 1) cl)) := (((Oth.of_below S HB2.out).trans (Oth.of_below S HB24.out) fun _ _ h => h).trans (Oth.of_below S HB.out) fun _ _ h => h).put (.inl HR.out.at) _
          have hT7 : ∀ k, T k → (S k ∨ w1.heap.size ≤ k) ∧ k < wr.heap.size := fun k hk => by
            have h24 := HB24.out.size
            have hs := HB.out.size
            have h2 := HB2.out.size
            rw [hT] at hk
            rcases hk with hk | hk | hk
            · have := HD4.out.lt k hk; exact ⟨.inl hk, by omega⟩
            · have := HA1.out k hk; exact ⟨.inr (by omega), by omega⟩
            · exact ⟨.inr (by omega), by omega⟩
          obtain ⟨vg, hcg⟩ : ∃ vg, wr.cell? ⟨g, 0, none⟩ = some vg := ⟨_, HCg.out wr HB.out⟩
          have hfg : wr.frozen? ⟨g, 0, none⟩ = false := by
            obtain ⟨_, _, _, hr, _⟩ := HDw
            exact hr.free 0
          have HT7 := hide hT7
          have HR7 := hide hR7
          have HO7 := hide hO7
          have hxw := HX.out wr HB.out
          have HXw := hide (show (wr.setCell ⟨g, 0, none⟩ (.slice (some ⟨gl, 0, none⟩) (k + 1) cl)).cell? ⟨q, 2, none⟩ = some (.bool r) from by
            rw [World.cell?_setCell_far _ _ _ _ (show g ≠ q from by have := HD2.out.lt _ HD2.out.at; have := HQ.out.1; omega)]
            exact hxw.2.2)
          clear hxw hT7 hR7 hO7 HDw hT hgw4 HVl hgl1 hgl2 HE2 HV2 HA1 HO
          have hxr := HXw.out
          obtain ⟨B7, hB7⟩ : ∃ z, z = wr.heap.size := ⟨_, rfl⟩
          have HB7 := hide (show B7 = (wr.setCell ⟨g, 0, none⟩ (.slice (some ⟨gl, 0, none⟩) (k + 1) cl)).heap.size ∧ w1.heap.size ≤ B7 from ⟨by rw [hB7]; simp [World.setCell], by have := HB2.out.size; have := HB24.out.size; have := HB.out.size; omega⟩)
          rw [← hB7] at HT7
          have HB7w := hide hB7
          clear hB7
          cases r with
          | false =>
            have HAdd := hide (show Dq.add D id ps = (insN x D, []) from by
              unfold Dq.add
              rw [HG.out, if_neg (by simp), if_neg (by rw [← HRy.out]; decide), HXe.out])
            go_wp2
            go_ret
            exact ⟨_, T, rfl, by rw [HAdd.out]; exact OwT.nil _ _ _, by rw [HAdd.out]; exact HR7.out, HO7.out, fun k hk => (HT7.out k hk).1, fun k hk => by cases hk⟩
          | true =>
            have HAdd := hide (show Dq.add D id ps = fill (k + 1) (insN x D) [id] from by
              unfold Dq.add
              rw [HG.out, if_neg (by simp), if_pos HRy.out.symm, HXe.out, HN.out])
            have HInv := hide (show Inv (insN x D) ∧ cnt (insN x D) = cnt D + 1 ∧ (insN x D).length = k + 1 from by
              have hx2 := get_none HG.out
              refine ⟨HK.out.inv.more (insN_up HK.out.inv.up (by rw [HXid.out]; exact hx2)) (id := id) (ps := sortIds ps) (fun n hn ho => ?_) (fun n hn _ => insN_mem.2 (.inr hn)) ((has_false HK.out.inv.up).2 fun n hn e => absurd e (hx2 n hn)) HRy.out.symm ?_, ?_, by rw [insN_len, HN.out]⟩
              · rcases insN_mem.1 hn with rfl | hn
                · exact .inr ⟨HXid.out, by rw [HXe.out]⟩
                · exact .inl ⟨hn, ho⟩
              · rw [insN_cnt, HXe.out]; rfl
              · rw [insN_cnt, HXe.out]; rfl)
            have HPs := hide (show ∀ y ∈ bas (insN x D), y.2.length ≤ 10 from fun y hy => by
              rcases (insN_bas x D y).1 hy with e | h
              · rw [e, HXe.out]
                exact Nat.le_trans (sortIds_len ps) hp.1
              · obtain ⟨n, hn, rfl⟩ := List.mem_map.1 h
                exact (HK.out.ids n hn).2.1)
            go_wp2
            obtain ⟨w7, hw7⟩ : ∃ z, z = wr.setCell ⟨g, 0, none⟩ (.slice (some ⟨gl, 0, none⟩) (k + 1) cl) := ⟨_, rfl⟩
            rw [← hw7] at HR7 HO7 HB7 ⊢
            clear hw7 hxr hcg hfg HXw
            have HOut := hide (show OwT (w7.alloc (.cells #[.string ⟨id.toArray⟩] tId)) B7 tId (.slice (some ⟨wr.heap.size, 0, none⟩) 1 1) [id] from by rw [← HB7w.out, HB7.out.1]; have hl := OwT.lit w7 B7 tId [id] #[.string ⟨id.toArray⟩] rfl (by rw [HB7.out.1]; exact Nat.le_refl _) (by show 1 ≤ maxLen; unfold maxLen; omega); rwa [HB7.out.1] at hl)
            obtain ⟨w8, hw8⟩ : ∃ z, z = w7.alloc (.cells #[.string ⟨id.toArray⟩] tId) := ⟨_, rfl⟩
            have HB78 := hide (show Below w7.heap.size w7 w8 from by rw [hw8]; exact (Below.refl _ _).alloc (Nat.le_refl _) _)
            rw [← hw8] at HOut ⊢
            clear hw8
            have HR8 := hide (HR7.out.below HB78.out)
            have HO8 := hide (HO7.out.trans (Oth.of_below S HB78.out) fun _ _ h => h)
            have HS8 := hide (show B7 ≤ w8.heap.size from by rw [HB7.out.1]; exact HB78.out.size)
            have hkN : k + 1 ≤ 40 := by have := hl; omega
            go_loopw [11, 12] (fun ov i wz => ∃ (m : Nat) (E : List Nd) (o : List Bs) (f : Nat) (vo : Value), vo = ov ∧ i = .int .i64 m ∧ m ≤ k + 1 ∧ o.length ≤ cnt E ∧ cnt E ≤ k + 1 ∧ k + 2 ≤ f + cnt E ∧ Hid (E.length = k + 1) ∧ Hid (fill f E o = fill (k + 1) (insN x D) [id]) ∧ Hid (Inv E) ∧ Hid (bas E = bas (insN x D)) ∧
              Hid (∀ (j : Nat) (m' : Nd), j < m → E[j]? = some m' → m'.on = true ∨ ready E m'.ps = false) ∧ Hid (RdIn wz T g E) ∧ Hid (OwT wz B7 tId vo o) ∧ Hid (Oth S w1 wz) ∧ Hid (B7 ≤ wz.heap.size)) (fun ov i _ => (100 - lenA ov) * 100 + (99 - (intOf i).toNat))
            case atStart => exact ⟨0, insN x D, [id], k + 1, _, rfl, rfl, Nat.zero_le _, by rw [HInv.out.2.1]; simp, by rw [← HInv.out.2.2]; exact cnt_le _, by rw [HInv.out.2.1]; omega, by show Hid _; exact hide HInv.out.2.2, by show Hid _; exact hide rfl, by show Hid _; exact hide HInv.out.1, by show Hid _; exact hide rfl, by show Hid _; exact hide (fun j _ h => absurd h (Nat.not_lt_zero j)), by show Hid _; exact HR8, by show Hid _; exact HOut, by show Hid _; exact HO8, by show Hid _; exact HS8⟩
            case round =>
              clear HR8 HO8 HOut HS8 HR7 HO7 HB78 HD4 HCg HC HX
              obtain ⟨m, E, o, f, vo, rfl, rfl, hm, hoc, hck, hfc, HEl, HFi, HI, HBs, HAh, HRd, HOw, HOt, HSz⟩ := hrel
              obtain ⟨Ag, cg, hg, hrow⟩ := HRd.out.rd
              rw [HEl.out] at hg
              by_cases hlt : m < k + 1
              · obtain ⟨n, hnk⟩ : ∃ z, E[m]? = some z := ⟨_, List.getElem?_eq_getElem (by rw [HEl.out]; exact hlt)⟩
                obtain ⟨b, A', c', rfl, k1, k2, k3, k4⟩ := hrow m n hnk
                have hpl : n.ps.length ≤ 10 := HPs.out (n.id, n.ps) (by rw [← HBs.out]; exact List.mem_map.2 ⟨n, List.mem_of_getElem? hnk, rfl⟩)
                cases hon : n.on with
                | true =>
                  rw [hon] at k3
                  have HAh2 := hide (show ∀ (j : Nat) (m' : Nd), j < m + 1 → E[j]? = some m' → m'.on = true ∨ ready E m'.ps = false from fun j m' hj hm' => by
                    by_cases e : j = m
                    · subst e
                      rw [hnk] at hm'
                      injection hm' with hm'
                      rw [← hm']; exact .inl hon
                    · exact HAh.out j m' (by omega) hm')
                  clear hrow hnk hon hpl k4
                  generalize n.ps.length = pl at *
                  go_wp2
                  exact ⟨⟨m + 1, E, o, f, _, rfl, by go_num, by omega, hoc, hck, hfc, by show Hid _; exact HEl, by show Hid _; exact HFi, by show Hid _; exact HI, by show Hid _; exact HBs, by show Hid _; exact HAh2, by show Hid _; exact HRd, by show Hid _; exact HOw, by show Hid _; exact HOt, by show Hid _; exact HSz⟩, by simp [intOf]; omega⟩
                | false =>
                  rw [hon] at k3
                  have hRr := rready_any HRd.out (by rw [HEl.out]; omega) n.ps A' c' _ k4 (by omega)
                  have HNk := hide hnk
                  have HOn := hide hon
                  obtain ⟨pl, hpe⟩ : ∃ z, z = n.ps.length := ⟨_, rfl⟩
                  rw [← hpe] at k2 hRr
                  have HRr := hide hRr
                  clear hrow hnk hon hpl k4 hRr hpe
                  go_wp2_with fail
                  refine HRr.out.mono ?_
                  rintro e w9 ⟨rfl, rfl⟩
                  cases hry : ready E n.ps with
                  | false =>
                    have HAh2 := hide (show ∀ (j : Nat) (m' : Nd), j < m + 1 → E[j]? = some m' → m'.on = true ∨ ready E m'.ps = false from fun j m' hj hm' => by
                      by_cases e : j = m
                      · subst e
                        rw [HNk.out] at hm'
                        injection hm' with hm'
                        rw [← hm']; exact .inr hry
                      · exact HAh.out j m' (by omega) hm')
                    clear hry HRr
                    go_wp2
                    exact ⟨⟨m + 1, E, o, f, _, rfl, by go_num, by omega, hoc, hck, hfc, by show Hid _; exact HEl, by show Hid _; exact HFi, by show Hid _; exact HI, by show Hid _; exact HBs, by show Hid _; exact HAh2, by show Hid _; exact HRd, by show Hid _; exact HOw, by show Hid _; exact HOt, by show Hid _; exact HSz⟩, by simp [intOf]; omega⟩
                  | true =>
                    have hnx := nxt_here HNk.out HOn.out hry HAh.out
                    obtain ⟨f', rfl⟩ : ∃ f', f = f' + 1 := ⟨f - 1, by omega⟩
                    have hFi2 := HFi.out
                    rw [fill_some hnx HNk.out] at hFi2
                    have HFi2 := hide hFi2
                    obtain ⟨q1, q2⟩ := HI.out.turn hnx
                    have HI2 := hide q1
                    have hck2 : cnt (turnOn E m) ≤ k + 1 := by have := cnt_le (turnOn E m); rw [turnOn_len, HEl.out] at this; exact this
                    have HEl2 := hide (show (turnOn E m).length = k + 1 from by rw [turnOn_len]; exact HEl.out)
                    have HBs2 := hide (show bas (turnOn E m) = bas (insN x D) from (turnOn_bas E m).trans HBs.out)
                    obtain ⟨r1, r2, r3⟩ := HRd.out.turn HNk.out hg
                    have HR2 := hide r1
                    have hbT := HT7.out b r2
                    have HO9 := hide (show OwT (w9.setCell ⟨b, m * 3 + 2, none⟩ (.bool true)) B7 tId vo o from owt_moved HOw.out fun g hg => Below.heap_setCell w9 ⟨b, m * 3 + 2, none⟩ _ g (by have := World.ownsRow.lt HOw.out g hg; show g ≠ b; omega))
                    have HOt9 := hide (show Oth S w1 (w9.setCell ⟨b, m * 3 + 2, none⟩ (.bool true)) from HOt.out.put hbT.1 _)
                    have hSz9 : B7 ≤ (w9.setCell ⟨b, m * 3 + 2, none⟩ (.bool true)).heap.size := by simpa [World.setCell] using HSz.out
                    have g9 : (w9.setCell ⟨b, m * 3 + 2, none⟩ (.bool true)).cell? ⟨g, 0, none⟩ = some (.slice (some ⟨b, 0, none⟩) (k + 1) cg) := by
                      rw [World.cell?_setCell_other _ _ _ _ (fun e => by injection e with e1 e2 _; omega)]; exact hg
                    have k9 : (w9.setCell ⟨b, m * 3 + 2, none⟩ (.bool true)).cell? ⟨b, m * 3, none⟩ = some (.string ⟨n.id.toArray⟩) := by
                      rw [World.cell?_setCell_other _ _ _ _ (fun e => by injection e with e1 e2 _; omega)]; exact k1
                    have hlo : o.length + 1 ≤ 1000000000 := by omega
                    have hvo : lenA vo = o.length := by
                      obtain ⟨A0, c0, e0, _⟩ := own_vs HOw.out
                      rw [e0]; rfl
                    have HVo := hide hvo
                    clear hry HRr hnx hFi2 q1 r1 r2 hvo
                    obtain ⟨w10, hset⟩ : ∃ z, w9.setCell ⟨b, m * 3 + 2, none⟩ (.bool true) = z := ⟨_, rfl⟩
                    rw [hset] at HR2 HO9 HOt9 hSz9 g9 k9
                    go_wp2_with (at_builtin; go_loud (refine wpList_pushI rfl (.tmp 118) (.tmp 127) rfl B7 w10 _ o n.id _ rfl rfl rfl HO9.out hlo (Below.refl _ _) hSz9 ?_; intro v6 w6 hown6 hb6 _ _; have HO6 := hide hown6; have HB6 := hide hb6; clear hown6 hb6))
                    have hR6 := HR2.out.move (fun b hb => HB6.out.block b (HT7.out b hb).2) HB6.out.size
                    have hO6 : Oth S w1 w6 := HOt9.out.trans (T := fun k => B7 ≤ k) ⟨HB6.out.os, HB6.out.tape, HB6.out.output, HB6.out.size, fun k _ hn => HB6.out.block k (Nat.lt_of_not_le hn)⟩ fun i hi hT => absurd hT (by have := HB7.out.2; omega)
                    have hl6 : lenA v6 = o.length + 1 := by
                      obtain ⟨A0, c0, e0, _⟩ := own_vs HO6.out
                      rw [e0]
                      show (o ++ [n.id]).length = _
                      simp
                    exact ⟨⟨0, turnOn E m, o ++ [n.id], f', v6, rfl, rfl, Nat.zero_le _, by rw [List.length_append, List.length_cons, List.length_nil, q2]; omega, hck2, by rw [q2]; omega, by show Hid _; exact HEl2, by show Hid _; exact HFi2, by show Hid _; exact HI2, by show Hid _; exact HBs2, by show Hid _; exact hide (fun j _ h => absurd h (Nat.not_lt_zero j)), by show Hid _; exact hide hR6, by show Hid _; exact HO6, by show Hid _; exact hide hO6, by show Hid _; exact hide (Nat.le_trans hSz9 HB6.out.size)⟩, by rw [hl6, HVo.out]; simp [intOf]; omega⟩
              · obtain rfl : m = k + 1 := by omega
                have hnx : nxt E = none := nxt_over fun j m' hj => HAh.out j m' (by have := (List.getElem?_eq_some_iff.1 hj).1; have := HEl.out; omega) hj
                have hFi2 := HFi.out
                rw [fill_none hnx] at hFi2
                have HF2 := hide (show Dq.add D id ps = (E, o) from HAdd.out.trans hFi2.symm)
                clear hrow hnx hFi2
                go_wp2
                go_ret
                refine ⟨_, T, rfl, ?_, ?_, HOt.out, fun k hk => (HT7.out k hk).1, fun k hk hT => ?_⟩
                · rw [HF2.out]; exact owt_base HOw.out HB7.out.2
                · rw [HF2.out]; exact HRd.out
                · have := (World.ownsRow.lt HOw.out k hk).1
                  have := (HT7.out k hT).2
                  omega
        | false =>
          have HE3 := hide (show (V ++ [(x, Value.slice A1 M c1)]).map (·.1) = insN x D from by rw [← HE2.out, List.map_append]; rfl)
          have hxq := HX.out wr HB.out
          obtain ⟨x1, x2, x3⟩ := hxq
          have HV3 := hide (show ∀ p ∈ V ++ [(x, Value.slice A1 M c1)], P p from fun p hp => (List.mem_append.1 hp).elim (HV.out p) fun h => by rw [List.mem_singleton.1 h, HP.out]; exact .inr rfl)
          clear HE2 HV
          have HE2 := HE3
          have HV2 := HV3
          clear HE3 HV3
          cases r with
          | false =>
            have HAdd := hide (show Dq.add D id ps = (insN x D, []) from by
              unfold Dq.add
              rw [HG.out, if_neg (by simp), if_neg (by rw [← HRy.out]; decide), HXe.out])
            go_wp2_with (at_builtin; go_loud (
              refine wpList_pushN rfl (.tmp 66) (.tmp 68) rfl w4.heap.size w4 _ (.slice A1 M c1) V x _ rfl rfl (by rw [HXe.out]; rfl) HO.out rfl hlen1 HB.out HB.out.size ?_
              intro v6 w6 hown6 hb6
              have HO6 := hide hown6
              have HB6 := hide hb6
              clear hown6 hb6
              have HVl := hide (show (V ++ [(x, Value.slice A1 M c1)]).length = k + 1 from by have := congrArg List.length HE2.out; rw [List.length_map, insN_len] at this; have := HN.out; omega)
              obtain ⟨gl, cl, rfl, hgl1, hgl2⟩ : ∃ gl cl, v6 = .slice (some ⟨gl, 0, none⟩) (k + 1) cl ∧ w4.heap.size ≤ gl ∧ gl < w6.heap.size := by
                rcases HO6.out.2 with ⟨_, hz⟩ | ⟨gl, cap, cur, hvv, h1, h2, _⟩
                · have := HVl.out; omega
                · exact ⟨gl, cap, by rw [hvv, HVl.out], h1, (Array.getElem?_eq_some_iff.1 h2).1⟩
              obtain ⟨T, hT⟩ : ∃ T : Nat → Prop, T = fun k => S k ∨ (Value.slice A1 M c1).ownBlock = some k ∨ k = gl := ⟨_, rfl⟩
              have HDw := HD4.out.below HB6.out
              have hgw4 := HD4.out.lt _ HD4.out.at
              have HA1 := hide (show ∀ b, (Value.slice A1 M c1).ownBlock = some b → w2.heap.size ≤ b + (w2.heap.size - w1.heap.size) ∧ w1.heap.size ≤ b ∧ b < w2.heap.size from fun b hb => by have := World.ownsRow.lt HO2.out b hb; omega)
              have hR7 : RdIn (w6.setCell ⟨g, 0, none⟩ (.slice (some ⟨gl, 0, none⟩) (k + 1) cl)) T g (insN x D) := by
                rw [← HE2.out]
                refine HDw.take HO6.out (fun p hp => ?_) (fun k hk => by rw [hT]; exact .inl hk) (fun b hb => ?_) fun k hk => ?_
                · have := HV2.out p hp
                  rw [HP.out] at this
                  rcases this with ⟨A, c, e, k⟩ | rfl
                  · exact ⟨A, c, e, vs_imp (vs_move k fun b hb => HB6.out.block b (HD4.out.lt b hb)) fun b _ hb => by rw [hT]; exact .inl hb⟩
                  · refine ⟨A1, c1, by rw [HXe.out, HM.out], ?_⟩
                    rw [HXe.out]
                    refine vs_imp (vs_move HIn4.out fun b hb => HB6.out.block b ?_) fun b _ hb => by rw [hT]; exact .inr (.inl hb)
                    have := HA1.out b hb
                    have := HQ.out.2
                    omega
                · injection hb with hb
                  have hb : gl = b := hb
                  subst hb
                  exact ⟨by rw [hT]; exact .inr (.inr rfl), by omega⟩
                · rw [hT] at hk
                  have h24 := HB24.out.size
                  have hs := HB6.out.size
                  rcases hk with hk | hk | hk
                  · have := HD4.out.lt k hk; omega
                  · have := HA1.out k hk; omega
                  · omega
              have hO7 : Oth S w1 (w6.setCell ⟨g, 0, none⟩ (.slice (some ⟨gl, 0, none⟩) (k + 1) cl)) := (((Oth.of_below S HB2.out).trans (Oth.of_below S HB24.out) fun _ _ h => h).trans (Oth.of_below S HB6.out) fun _ _ h => h).put (.inl HR.out.at) _
              have hT7 : ∀ k, T k → (S k ∨ w1.heap.size ≤ k) ∧ k < w6.heap.size := fun k hk => by
                have h24 := HB24.out.size
                have hs := HB6.out.size
                have h2 := HB2.out.size
                rw [hT] at hk
                rcases hk with hk | hk | hk
                · have := HD4.out.lt k hk; exact ⟨.inl hk, by omega⟩
                · have := HA1.out k hk; exact ⟨.inr (by omega), by omega⟩
                · exact ⟨.inr (by omega), by omega⟩
              obtain ⟨vg, hcg⟩ : ∃ vg, w6.cell? ⟨g, 0, none⟩ = some vg := ⟨_, HCg.out w6 HB6.out⟩
              have hfg : w6.frozen? ⟨g, 0, none⟩ = false := by
                obtain ⟨_, _, _, hr, _⟩ := HDw
                exact hr.free 0
              have HT7 := hide hT7
              have HR7 := hide hR7
              have HO7 := hide hO7
              have hxw := HX.out w6 HB6.out
              have HXw := hide (show (w6.setCell ⟨g, 0, none⟩ (.slice (some ⟨gl, 0, none⟩) (k + 1) cl)).cell? ⟨q, 2, none⟩ = some (.bool false) from by
                rw [World.cell?_setCell_far _ _ _ _ (show g ≠ q from by have := HD2.out.lt _ HD2.out.at; have := HQ.out.1; omega)]
                exact hxw.2.2)
              clear hxw hT7 hR7 hO7 HDw hT hgw4 HVl hgl1 hgl2 HE2 HV2 HA1 HO6
              have hxr := HXw.out
              obtain ⟨B7, hB7⟩ : ∃ z, z = w6.heap.size := ⟨_, rfl⟩
              have HB7 := hide (show B7 = (w6.setCell ⟨g, 0, none⟩ (.slice (some ⟨gl, 0, none⟩) (k + 1) cl)).heap.size ∧ w1.heap.size ≤ B7 from ⟨by rw [hB7]; simp [World.setCell], by have := HB2.out.size; have := HB24.out.size; have := HB6.out.size; omega⟩)
              rw [← hB7] at HT7
              have HB7w := hide hB7
              clear hB7))
            go_ret
            exact ⟨_, T, rfl, by rw [HAdd.out]; exact OwT.nil _ _ _, by rw [HAdd.out]; exact HR7.out, HO7.out, fun k hk => (HT7.out k hk).1, fun k hk => by cases hk⟩
          | true =>
            have HAdd := hide (show Dq.add D id ps = fill (k + 1) (insN x D) [id] from by
              unfold Dq.add
              rw [HG.out, if_neg (by simp), if_pos HRy.out.symm, HXe.out, HN.out])
            have HInv := hide (show Inv (insN x D) ∧ cnt (insN x D) = cnt D + 1 ∧ (insN x D).length = k + 1 from by
              have hx2 := get_none HG.out
              refine ⟨HK.out.inv.more (insN_up HK.out.inv.up (by rw [HXid.out]; exact hx2)) (id := id) (ps := sortIds ps) (fun n hn ho => ?_) (fun n hn _ => insN_mem.2 (.inr hn)) ((has_false HK.out.inv.up).2 fun n hn e => absurd e (hx2 n hn)) HRy.out.symm ?_, ?_, by rw [insN_len, HN.out]⟩
              · rcases insN_mem.1 hn with rfl | hn
                · exact .inr ⟨HXid.out, by rw [HXe.out]⟩
                · exact .inl ⟨hn, ho⟩
              · rw [insN_cnt, HXe.out]; rfl
              · rw [insN_cnt, HXe.out]; rfl)
            have HPs := hide (show ∀ y ∈ bas (insN x D), y.2.length ≤ 10 from fun y hy => by
              rcases (insN_bas x D y).1 hy with e | h
              · rw [e, HXe.out]
                exact Nat.le_trans (sortIds_len ps) hp.1
              · obtain ⟨n, hn, rfl⟩ := List.mem_map.1 h
                exact (HK.out.ids n hn).2.1)
            go_wp2_with (at_builtin; go_loud (
              refine wpList_pushN rfl (.tmp 66) (.tmp 68) rfl w4.heap.size w4 _ (.slice A1 M c1) V x _ rfl rfl (by rw [HXe.out]; rfl) HO.out rfl hlen1 HB.out HB.out.size ?_
              intro v6 w6 hown6 hb6
              have HO6 := hide hown6
              have HB6 := hide hb6
              clear hown6 hb6
              have HVl := hide (show (V ++ [(x, Value.slice A1 M c1)]).length = k + 1 from by have := congrArg List.length HE2.out; rw [List.length_map, insN_len] at this; have := HN.out; omega)
              obtain ⟨gl, cl, rfl, hgl1, hgl2⟩ : ∃ gl cl, v6 = .slice (some ⟨gl, 0, none⟩) (k + 1) cl ∧ w4.heap.size ≤ gl ∧ gl < w6.heap.size := by
                rcases HO6.out.2 with ⟨_, hz⟩ | ⟨gl, cap, cur, hvv, h1, h2, _⟩
                · have := HVl.out; omega
                · exact ⟨gl, cap, by rw [hvv, HVl.out], h1, (Array.getElem?_eq_some_iff.1 h2).1⟩
              obtain ⟨T, hT⟩ : ∃ T : Nat → Prop, T = fun k => S k ∨ (Value.slice A1 M c1).ownBlock = some k ∨ k = gl := ⟨_, rfl⟩
              have HDw := HD4.out.below HB6.out
              have hgw4 := HD4.out.lt _ HD4.out.at
              have HA1 := hide (show ∀ b, (Value.slice A1 M c1).ownBlock = some b → w2.heap.size ≤ b + (w2.heap.size - w1.heap.size) ∧ w1.heap.size ≤ b ∧ b < w2.heap.size from fun b hb => by have := World.ownsRow.lt HO2.out b hb; omega)
              have hR7 : RdIn (w6.setCell ⟨g, 0, none⟩ (.slice (some ⟨gl, 0, none⟩) (k + 1) cl)) T g (insN x D) := by
                rw [← HE2.out]
                refine HDw.take HO6.out (fun p hp => ?_) (fun k hk => by rw [hT]; exact .inl hk) (fun b hb => ?_) fun k hk => ?_
                · have := HV2.out p hp
                  rw [HP.out] at this
                  rcases this with ⟨A, c, e, k⟩ | rfl
                  · exact ⟨A, c, e, vs_imp (vs_move k fun b hb => HB6.out.block b (HD4.out.lt b hb)) fun b _ hb => by rw [hT]; exact .inl hb⟩
                  · refine ⟨A1, c1, by rw [HXe.out, HM.out], ?_⟩
                    rw [HXe.out]
                    refine vs_imp (vs_move HIn4.out fun b hb => HB6.out.block b ?_) fun b _ hb => by rw [hT]; exact .inr (.inl hb)
                    have := HA1.out b hb
                    have := HQ.out.2
                    omega
                · injection hb with hb
                  have hb : gl = b := hb
                  subst hb
                  exact ⟨by rw [hT]; exact .inr (.inr rfl), by omega⟩
                · rw [hT] at hk
                  have h24 := HB24.out.size
                  have hs := HB6.out.size
                  rcases hk with hk | hk | hk
                  · have := HD4.out.lt k hk; omega
                  · have := HA1.out k hk; omega
                  · omega
              have hO7 : Oth S w1 (w6.setCell ⟨g, 0, none⟩ (.slice (some ⟨gl, 0, none⟩) (k + 1) cl)) := (((Oth.of_below S HB2.out).trans (Oth.of_below S HB24.out) fun _ _ h => h).trans (Oth.of_below S HB6.out) fun _ _ h => h).put (.inl HR.out.at) _
              have hT7 : ∀ k, T k → (S k ∨ w1.heap.size ≤ k) ∧ k < w6.heap.size := fun k hk => by
                have h24 := HB24.out.size
                have hs := HB6.out.size
                have h2 := HB2.out.size
                rw [hT] at hk
                rcases hk with hk | hk | hk
                · have := HD4.out.lt k hk; exact ⟨.inl hk, by omega⟩
                · have := HA1.out k hk; exact ⟨.inr (by omega), by omega⟩
                · exact ⟨.inr (by omega), by omega⟩
              obtain ⟨vg, hcg⟩ : ∃ vg, w6.cell? ⟨g, 0, none⟩ = some vg := ⟨_, HCg.out w6 HB6.out⟩
              have hfg : w6.frozen? ⟨g, 0, none⟩ = false := by
                obtain ⟨_, _, _, hr, _⟩ := HDw
                exact hr.free 0
              have HT7 := hide hT7
              have HR7 := hide hR7
              have HO7 := hide hO7
              have hxw := HX.out w6 HB6.out
              have HXw := hide (show (w6.setCell ⟨g, 0, none⟩ (.slice (some ⟨gl, 0, none⟩) (k + 1) cl)).cell? ⟨q, 2, none⟩ = some (.bool true) from by
                rw [World.cell?_setCell_far _ _ _ _ (show g ≠ q from by have := HD2.out.lt _ HD2.out.at; have := HQ.out.1; omega)]
                exact hxw.2.2)
              clear hxw hT7 hR7 hO7 HDw hT hgw4 HVl hgl1 hgl2 HE2 HV2 HA1 HO6
              have hxr := HXw.out
              obtain ⟨B7, hB7⟩ : ∃ z, z = w6.heap.size := ⟨_, rfl⟩
              have HB7 := hide (show B7 = (w6.setCell ⟨g, 0, none⟩ (.slice (some ⟨gl, 0, none⟩) (k + 1) cl)).heap.size ∧ w1.heap.size ≤ B7 from ⟨by rw [hB7]; simp [World.setCell], by have := HB2.out.size; have := HB24.out.size; have := HB6.out.size; omega⟩)
              rw [← hB7] at HT7
              have HB7w := hide hB7
              clear hB7))
            obtain ⟨w7, hw7⟩ : ∃ z, z = w6.setCell ⟨g, 0, none⟩ (.slice (some ⟨gl, 0, none⟩) (k + 1) cl) := ⟨_, rfl⟩
            rw [← hw7] at HR7 HO7 HB7 ⊢
            clear hw7 hxr hcg hfg HXw
            have HOut := hide (show OwT (w7.alloc (.cells #[.string ⟨id.toArray⟩] tId)) B7 tId (.slice (some ⟨w6.heap.size, 0, none⟩) 1 1) [id] from by rw [← HB7w.out, HB7.out.1]; have hl := OwT.lit w7 B7 tId [id] #[.string ⟨id.toArray⟩] rfl (by rw [HB7.out.1]; exact Nat.le_refl _) (by show 1 ≤ maxLen; unfold maxLen; omega); rwa [HB7.out.1] at hl)
            obtain ⟨w8, hw8⟩ : ∃ z, z = w7.alloc (.cells #[.string ⟨id.toArray⟩] tId) := ⟨_, rfl⟩
            have HB78 := hide (show Below w7.heap.size w7 w8 from by rw [hw8]; exact (Below.refl _ _).alloc (Nat.le_refl _) _)
            rw [← hw8] at HOut ⊢
            clear hw8
            have HR8 := hide (HR7.out.below HB78.out)
            have HO8 := hide (HO7.out.trans (Oth.of_below S HB78.out) fun _ _ h => h)
            have HS8 := hide (show B7 ≤ w8.heap.size from by rw [HB7.out.1]; exact HB78.out.size)
            have hkN : k + 1 ≤ 40 := by have := hl; omega
            go_loopw [11, 12] (fun ov i wz => ∃ (m : Nat) (E : List Nd) (o : List Bs) (f : Nat) (vo : Value), vo = ov ∧ i = .int .i64 m ∧ m ≤ k + 1 ∧ o.length ≤ cnt E ∧ cnt E ≤ k + 1 ∧ k + 2 ≤ f + cnt E ∧ Hid (E.length = k + 1) ∧ Hid (fill f E o = fill (k + 1) (insN x D) [id]) ∧ Hid (Inv E) ∧ Hid (bas E = bas (insN x D)) ∧
              Hid (∀ (j : Nat) (m' : Nd), j < m → E[j]? = some m' → m'.on = true ∨ ready E m'.ps = false) ∧ Hid (RdIn wz T g E) ∧ Hid (OwT wz B7 tId vo o) ∧ Hid (Oth S w1 wz) ∧ Hid (B7 ≤ wz.heap.size)) (fun ov i _ => (100 - lenA ov) * 100 + (99 - (intOf i).toNat))
            case atStart => exact ⟨0, insN x D, [id], k + 1, _, rfl, rfl, Nat.zero_le _, by rw [HInv.out.2.1]; simp, by rw [← HInv.out.2.2]; exact cnt_le _, by rw [HInv.out.2.1]; omega, by show Hid _; exact hide HInv.out.2.2, by show Hid _; exact hide rfl, by show Hid _; exact hide HInv.out.1, by show Hid _; exact hide rfl, by show Hid _; exact hide (fun j _ h => absurd h (Nat.not_lt_zero j)), by show Hid _; exact HR8, by show Hid _; exact HOut, by show Hid _; exact HO8, by show Hid _; exact HS8⟩
            case round =>
              clear HR8 HO8 HOut HS8 HR7 HO7 HB78 HD4 HCg HC HX
              obtain ⟨m, E, o, f, vo, rfl, rfl, hm, hoc, hck, hfc, HEl, HFi, HI, HBs, HAh, HRd, HOw, HOt, HSz⟩ := hrel
              obtain ⟨Ag, cg, hg, hrow⟩ := HRd.out.rd
              rw [HEl.out] at hg
              by_cases hlt : m < k + 1
              · obtain ⟨n, hnk⟩ : ∃ z, E[m]? = some z := ⟨_, List.getElem?_eq_getElem (by rw [HEl.out]; exact hlt)⟩
                obtain ⟨b, A', c', rfl, k1, k2, k3, k4⟩ := hrow m n hnk
                have hpl : n.ps.length ≤ 10 := HPs.out (n.id, n.ps) (by rw [← HBs.out]; exact List.mem_map.2 ⟨n, List.mem_of_getElem? hnk, rfl⟩)
                cases hon : n.on with
                | true =>
                  rw [hon] at k3
                  have HAh2 := hide (show ∀ (j : Nat) (m' : Nd), j < m + 1 → E[j]? = some m' → m'.on = true ∨ ready E m'.ps = false from fun j m' hj hm' => by
                    by_cases e : j = m
                    · subst e
                      rw [hnk] at hm'
                      injection hm' with hm'
                      rw [← hm']; exact .inl hon
                    · exact HAh.out j m' (by omega) hm')
                  clear hrow hnk hon hpl k4
                  generalize n.ps.length = pl at *
                  go_wp2
                  exact ⟨⟨m + 1, E, o, f, _, rfl, by go_num, by omega, hoc, hck, hfc, by show Hid _; exact HEl, by show Hid _; exact HFi, by show Hid _; exact HI, by show Hid _; exact HBs, by show Hid _; exact HAh2, by show Hid _; exact HRd, by show Hid _; exact HOw, by show Hid _; exact HOt, by show Hid _; exact HSz⟩, by simp [intOf]; omega⟩
                | false =>
                  rw [hon] at k3
                  have hRr := rready_any HRd.out (by rw [HEl.out]; omega) n.ps A' c' _ k4 (by omega)
                  have HNk := hide hnk
                  have HOn := hide hon
                  obtain ⟨pl, hpe⟩ : ∃ z, z = n.ps.length := ⟨_, rfl⟩
                  rw [← hpe] at k2 hRr
                  have HRr := hide hRr
                  clear hrow hnk hon hpl k4 hRr hpe
                  go_wp2_with fail
                  refine HRr.out.mono ?_
                  rintro e w9 ⟨rfl, rfl⟩
                  cases hry : ready E n.ps with
                  | false =>
                    have HAh2 := hide (show ∀ (j : Nat) (m' : Nd), j < m + 1 → E[j]? = some m' → m'.on = true ∨ ready E m'.ps = false from fun j m' hj hm' => by
                      by_cases e : j = m
                      · subst e
                        rw [HNk.out] at hm'
                        injection hm' with hm'
                        rw [← hm']; exact .inr hry
                      · exact HAh.out j m' (by omega) hm')
                    clear hry HRr
                    go_wp2
                    exact ⟨⟨m + 1, E, o, f, _, rfl, by go_num, by omega, hoc, hck, hfc, by show Hid _; exact HEl, by show Hid _; exact HFi, by show Hid _; exact HI, by show Hid _; exact HBs, by show Hid _; exact HAh2, by show Hid _; exact HRd, by show Hid _; exact HOw, by show Hid _; exact HOt, by show Hid _; exact HSz⟩, by simp [intOf]; omega⟩
                  | true =>
                    have hnx := nxt_here HNk.out HOn.out hry HAh.out
                    obtain ⟨f', rfl⟩ : ∃ f', f = f' + 1 := ⟨f - 1, by omega⟩
                    have hFi2 := HFi.out
                    rw [fill_some hnx HNk.out] at hFi2
                    have HFi2 := hide hFi2
                    obtain ⟨q1, q2⟩ := HI.out.turn hnx
                    have HI2 := hide q1
                    have hck2 : cnt (turnOn E m) ≤ k + 1 := by have := cnt_le (turnOn E m); rw [turnOn_len, HEl.out] at this; exact this
                    have HEl2 := hide (show (turnOn E m).length = k + 1 from by rw [turnOn_len]; exact HEl.out)
                    have HBs2 := hide (show bas (turnOn E m) = bas (insN x D) from (turnOn_bas E m).trans HBs.out)
                    obtain ⟨r1, r2, r3⟩ := HRd.out.turn HNk.out hg
                    have HR2 := hide r1
                    have hbT := HT7.out b r2
                    have HO9 := hide (show OwT (w9.setCell ⟨b, m * 3 + 2, none⟩ (.bool true)) B7 tId vo o from owt_moved HOw.out fun g hg => Below.heap_setCell w9 ⟨b, m * 3 + 2, none⟩ _ g (by have := World.ownsRow.lt HOw.out g hg; show g ≠ b; omega))
                    have HOt9 := hide (show Oth S w1 (w9.setCell ⟨b, m * 3 + 2, none⟩ (.bool true)) from HOt.out.put hbT.1 _)
                    have hSz9 : B7 ≤ (w9.setCell ⟨b, m * 3 + 2, none⟩ (.bool true)).heap.size := by simpa [World.setCell] using HSz.out
                    have g9 : (w9.setCell ⟨b, m * 3 + 2, none⟩ (.bool true)).cell? ⟨g, 0, none⟩ = some (.slice (some ⟨b, 0, none⟩) (k + 1) cg) := by
                      rw [World.cell?_setCell_other _ _ _ _ (fun e => by injection e with e1 e2 _; omega)]; exact hg
                    have k9 : (w9.setCell ⟨b, m * 3 + 2, none⟩ (.bool true)).cell? ⟨b, m * 3, none⟩ = some (.string ⟨n.id.toArray⟩) := by
                      rw [World.cell?_setCell_other _ _ _ _ (fun e => by injection e with e1 e2 _; omega)]; exact k1
                    have hlo : o.length + 1 ≤ 1000000000 := by omega
                    have hvo : lenA vo = o.length := by
                      obtain ⟨A0, c0, e0, _⟩ := own_vs HOw.out
                      rw [e0]; rfl
                    have HVo := hide hvo
                    clear hry HRr hnx hFi2 q1 r1 r2 hvo
                    obtain ⟨w10, hset⟩ : ∃ z, w9.setCell ⟨b, m * 3 + 2, none⟩ (.bool true) = z := ⟨_, rfl⟩
                    rw [hset] at HR2 HO9 HOt9 hSz9 g9 k9
                    go_wp2_with (at_builtin; go_loud (refine wpList_pushI rfl (.tmp 118) (.tmp 127) rfl B7 w10 _ o n.id _ rfl rfl rfl HO9.out hlo (Below.refl _ _) hSz9 ?_; intro v11 w11 hown11 hb11 _ _; have HO11 := hide hown11; have HB11 := hide hb11; clear hown11 hb11))
                    have hR11 := HR2.out.move (fun b hb => HB11.out.block b (HT7.out b hb).2) HB11.out.size
                    have hO11 : Oth S w1 w11 := HOt9.out.trans (T := fun k => B7 ≤ k) ⟨HB11.out.os, HB11.out.tape, HB11.out.output, HB11.out.size, fun k _ hn => HB11.out.block k (Nat.lt_of_not_le hn)⟩ fun i hi hT => absurd hT (by have := HB7.out.2; omega)
                    have hl11 : lenA v11 = o.length + 1 := by
                      obtain ⟨A0, c0, e0, _⟩ := own_vs HO11.out
                      rw [e0]
                      show (o ++ [n.id]).length = _
                      simp
                    exact ⟨⟨0, turnOn E m, o ++ [n.id], f', v11, rfl, rfl, Nat.zero_le _, by rw [List.length_append, List.length_cons, List.length_nil, q2]; omega, hck2, by rw [q2]; omega, by show Hid _; exact HEl2, by show Hid _; exact HFi2, by show Hid _; exact HI2, by show Hid _; exact HBs2, by show Hid _; exact hide (fun j _ h => absurd h (Nat.not_lt_zero j)), by show Hid _; exact hide hR11, by show Hid _; exact HO11, by show Hid _; exact hide hO11, by show Hid _; exact hide (Nat.le_trans hSz9 HB11.out.size)⟩, by rw [hl11, HVo.out]; simp [intOf]; omega⟩
              · obtain rfl : m = k + 1 := by omega
                have hnx : nxt E = none := nxt_over fun j m' hj => HAh.out j m' (by have := (List.getElem?_eq_some_iff.1 hj).1; have := HEl.out; omega) hj
                have hFi2 := HFi.out
                rw [fill_none hnx] at hFi2
                have HF2 := hide (show Dq.add D id ps = (E, o) from HAdd.out.trans hFi2.symm)
                clear hrow hnx hFi2
                go_wp2
                go_ret
                refine ⟨_, T, rfl, ?_, ?_, HOt.out, fun k hk => (HT7.out k hk).1, fun k hk hT => ?_⟩
                · rw [HF2.out]; exact owt_base HOw.out HB7.out.2
                · rw [HF2.out]; exact HRd.out
                · have := (World.ownsRow.lt HOw.out k hk).1
                  have := (HT7.out k hT).2
                  omega
end Go.Proofs.Ytplmcpdlommmaaa.Dq
