/-
  The law DagPlays, over any graph that keeps the contract.
-/
import Derived.Test.YtplmcpdlommmaaaDU
import Derived.Test.YtplmcpdlommmaaaDW
import Derived.Test.YtplmcpdlommmaaaDY
import Derived.Test.YtplmcpdlommmaaaCP
namespace Go.Proofs.Ytplmcpdlommmaaa.Oq
open Go Go.RowKit Kt Kg Lw Tr Dq

theorem okd_fw {D : List Nd} (h : Okd D) (hf : Fine D) : Fw D := ⟨h.few, fun n hn => by have := (hf n hn).1; omega, fun n hn => by have := (hf n hn).2.1; omega, fun n hn p hp => by have := (hf n hn).2.2 p hp; omega⟩
theorem fw_parents {D : List Nd} (h : Fw D) (a : Bs) : (parents D a).length ≤ 1000 := by
  unfold parents
  cases e : get D a with
  | none => exact Nat.zero_le _
  | some n =>
    have := h.many n (get_some e).1
    show (if n.on then n.ps else []).length ≤ 1000
    split
    · omega
    · exact Nat.zero_le _
theorem fw_all {D : List Nd} (h : Fw D) : ∀ x ∈ all D true, x.length ≤ 100000 := fun x hx => by
  obtain ⟨n, hn, rfl⟩ := List.mem_map.1 hx
  have := h.ids n (List.mem_filter.1 hn).1
  omega
theorem owt_max {w : World} {B : Nat} {v : Value} {l : List Bs} (h : OwT w B tId v l) : l.length ≤ 9223372036854775807 := by
  rcases h.2 with ⟨_, h2⟩ | ⟨g, cap, cur, hv, h1, h2, h3, h4, _⟩
  · rw [h2]; exact Nat.zero_le _
  · unfold maxLen at h4; omega
set_option maxRecDepth 100000 in
set_option maxHeartbeats 3000000 in
theorem lawPlays_any {In : World → (Nat → Prop) → Nat → List Nd → Prop} (l : List Nd) (A : Option Addr) (c : Nat) (xa xb : Bs) (w : World) (C : Cd w In) (hs : Nds w A c l) (hl : l.length ≤ 9223372036854775807) :
    Calls Try.prog 3 #[.slice A l.length c, .string ⟨xa.toArray⟩, .string ⟨xb.toArray⟩] w fun y w' => y = .returned (.bool true) ∧ Below w.heap.size w w' := by
  have HC := hide C
  have Hs := hide hs
  have Hl := hide hl
  have Hw := hide (dwake_any w C)
  obtain ⟨N, hN⟩ : ∃ N, N = l.length := ⟨_, rfl⟩
  have HN := hide hN
  rw [← hN]
  obtain ⟨la, hla⟩ : ∃ z, z = xa.length := ⟨_, rfl⟩
  obtain ⟨lb, hlb⟩ : ∃ z, z = xb.length := ⟨_, rfl⟩
  have hza : (⟨xa.toArray⟩ : ByteArray).size = la := by rw [hla]; simp [ByteArray.size]
  have hzb : (⟨xb.toArray⟩ : ByteArray).size = lb := by rw [hlb]; simp [ByteArray.size]
  have HLa := hide hla
  have HLb := hide hlb
  clear C hs hN hl hla hlb
  go_enter Try.func3, Try.ntmps3
  go_wp2_with fail
  refine Hw.out.mono ?_
  rintro y w1 ⟨rfl, hb1⟩
  have HB1 := hide hb1
  have HFew := hide (rfew_any l A c w1 (Hs.out.keep hb1) Hl.out)
  rw [← HN.out] at HFew
  clear hb1 Hw
  go_wp2_with fail
  refine HFew.out.mono ?_
  rintro y w2 ⟨rfl, hb2⟩
  have HB2 := hide (HB1.out.trans (hb2.mono HB1.out.size))
  clear hb2 HFew HB1
  cases hfe : fewN l with
  | false =>
    go_wp2
    go_ret
    exact ⟨rfl, HB2.out⟩
  | true =>
    by_cases ha40 : 40 < la
    · have d1 : decide ((40 : Int) < (la : Int)) = true := decide_eq_true (by omega)
      go_wp2
      go_ret
      exact ⟨rfl, HB2.out⟩
    by_cases hb40 : 40 < lb
    · have d1 : decide ((40 : Int) < (la : Int)) = false := decide_eq_false (by omega)
      have d2 : decide ((40 : Int) < (lb : Int)) = true := decide_eq_true (by omega)
      go_wp2
      go_ret
      exact ⟨rfl, HB2.out⟩
    have d1 : decide ((40 : Int) < (la : Int)) = false := decide_eq_false (by omega)
    have d2 : decide ((40 : Int) < (lb : Int)) = false := decide_eq_false (by omega)
    have HXa := hide (show xa.length ≤ 50 from by rw [← HLa.out]; omega)
    have HXb := hide (show xb.length ≤ 50 from by rw [← HLb.out]; omega)
    have HFe := hide (fine_of hfe).1
    have hl14 : N ≤ 14 := by rw [HN.out]; exact (fine_of hfe).2
    have HNew := hide (GD.new HC.out HB2.out)
    have HLow := hide HB2.out
    clear hfe HB2 ha40 hb40 HLa HLb
    go_wp2_with fail
    clear d1 d2 hza hzb
    refine HNew.out.mono ?_
    rintro y w1 ⟨g, rfl, hg1, hb1⟩
    have HLow1 := hide (HLow.out.trans (hb1.mono HLow.out.size))
    have HG1 := hide hg1
    clear hb1 hg1 HNew
    go_wp2
    obtain ⟨r, hr⟩ : ∃ r, r = w1.heap.size := ⟨_, rfl⟩
    obtain ⟨w2, hw2⟩ : ∃ z, z = w1.alloc (.cells #[.slice none 0 0] tRd) := ⟨_, rfl⟩
    rw [← hr, ← hw2]
    have hb2 : Below w1.heap.size w1 w2 := by rw [hw2]; exact (Below.refl _ _).alloc (Nat.le_refl _) _
    have hsz2 : w2.heap.size = r + 1 := by rw [hw2, hr]; simp
    have HG2 := hide (show GD In w w2 g (run (l.take 0)) (fun k => k = r) from (HG1.out.below HC.out hb2).imp fun k hk => .inr (by rw [hk, hsz2, hr]; omega))
    have HR2 := hide (show RdIn w2 (fun k => k = r) r (run (l.take 0)) from by
      have hrow : Row w2 r tRd [.slice none 0 0] := by rw [hw2, hr]; exact Row.fresh w1 tRd #[Value.slice none 0 0]
      exact ⟨.slice none 0 0, [], rfl, hrow, rfl, World.ownsRow_nil _ _ _ _, (fun b e => by cases e), (fun p hp => by cases hp), fun k hk => by rw [hk, hsz2]; omega⟩)
    have HS2 := hide (show ∀ k, k = r → w.heap.size ≤ k from fun k hk => by rw [hk, hr]; exact HLow1.out.size)
    clear hr hw2 hb2 hsz2 HG1
    go_loopw [11] (fun i wr => ∃ (k : Nat) (Sr : Nat → Prop), k ≤ N ∧ i = .int .i64 k ∧ Hid (GD In w wr g (run (l.take k)) Sr) ∧ Hid (RdIn wr Sr r (run (l.take k))) ∧ Hid (∀ b, Sr b → w.heap.size ≤ b)) (fun i _ => N - (intOf i).toNat)
    case atStart => exact ⟨0, _, Nat.zero_le _, rfl, by show Hid _; exact HG2, by show Hid _; exact HR2, by show Hid _; exact HS2⟩
    case round =>
      clear HG2 HR2 HS2
      obtain ⟨k, Sr, hk, rfl, HG, HR, HS⟩ := hrel
      by_cases hlt : k < N
      · obtain ⟨n, hx⟩ : ∃ n, l[k]? = some n := ⟨_, List.getElem?_eq_getElem (by have := HN.out; omega)⟩
        obtain ⟨b, o, A', c', rfl, hX, hv⟩ := Hs.out.ever hx
        have HX := hide hX
        have HV := hide hv
        have hfe := HFe.out n (List.mem_of_getElem? hx)
        have hrl : (run (l.take k)).length < 40 := by
          have := (run_keeps (l.take k)).2.2
          rw [List.length_take] at this
          omega
        have hd : Below wr.heap.size wr wr.drew := (Below.refl _ _).drew
        have HAdd := hide ((HG.out.stay HC.out hd).add HC.out n.id n.ps A' c' _ hrl (vs_move (w' := wr.drew) hv fun b hb => (HG.out.low.drew).block b hb) (fun k hk => .inr hk) (by omega) ⟨by omega, fun p hp => by have := hfe.2.2 p hp; omega⟩)
        have HNx := hide (run_next2 hx)
        have HFn := hide hfe
        have HRl := hide hrl
        have HOk := hide HG.out.ok
        have HOk2 := hide ((HG.out.ok.add hrl (show n.id.length ≤ 50 by omega) (show n.ps.length ≤ 10 ∧ ∀ p ∈ n.ps, p.length ≤ 50 from ⟨by omega, fun p hp => by have := hfe.2.2 p hp; omega⟩)).1)
        obtain ⟨nw, hnw⟩ : ∃ z, z = (Dq.add (run (l.take k)) n.id n.ps).2 := ⟨_, rfl⟩
        have HNw := hide hnw
        clear hnw
        rw [← HNx.out] at HAdd
        obtain ⟨M, hM⟩ : ∃ M, M = n.ps.length := ⟨_, rfl⟩
        rw [← hM] at HAdd HX
        have HM := hide hM
        have hc := HX.out wr HG.out.low
        clear hx hX hv hfe hrl hd hM
        go_wp2
        refine Rg.wp_region_ord (fun w' => w'.cell? ⟨b, o + k * 3, none⟩ = some (.string ⟨n.id.toArray⟩) ∧ w'.cell? ⟨b, o + k * 3 + 1, none⟩ = some (.slice A' M c')) [(0, true), (1, true), (2, true), (3, true), (4, true), (5, true), (6, true), (7, true), (8, true), (9, true), (10, true), (11, false), (12, true)] (by kernel_rfl) (by kernel_rfl) ?_
        simp only [Rg.pick, List.map_cons, List.map_nil, List.getD_cons_zero, List.getD_cons_succ]
        iterate 11 (refine Rg.ord_quiet (v := ?_) rfl (fun w' hS => ?_) hc ?_; rotate_left; (obtain ⟨s1, s2⟩ := hS; go_simp; with_reducible rfl); simp only [Act.put, List.setIfInBounds_toArray, List.set_cons_succ, List.set_cons_zero])
        refine Rg.ord_loud (by rfl) (fun K hK => ?_)
        go_simp
        refine HAdd.out.mono ?_
        rintro y w9 ⟨v, rfl, hv9, hg9, hF9, _, hsz9⟩
        have hvb : ∀ b, v.ownBlock = some b → wr.heap.size ≤ b := fun b e => (World.ownsRow.lt hv9 b e).1
        obtain ⟨A9, c9, rfl, _, hv9'⟩ := own_vs hv9
        have HV9 := hide hv9'
        have HVb := hide hvb
        have HV9lt := hide (fun b (e : (Value.slice A9 (Dq.add (run (l.take k)) n.id n.ps).2.length c9).ownBlock = some b) => (World.ownsRow.lt hv9 b e).2)
        have HSl := hide (show ∀ b, Sr b → b < wr.heap.size from HR.out.lt)
        have hR9 : RdIn w9 Sr r (run (l.take k)) := HR.out.move (fun b hb => hF9 b hb) hsz9
        have HG9 := hide hg9
        have HR9 := hide hR9
        have hc9 := HX.out w9 HG9.out.low
        clear hg9 hv9 hv9' hvb hF9 hsz9 hR9 HAdd hc HG HR
        refine hK _ _ (fun _ => hc9) ?_
        clear hK K
        iterate 1 (refine Rg.ord_quiet (v := ?_) rfl (fun w' hS => ?_) hc9 ?_; rotate_left; (obtain ⟨s1, s2⟩ := hS; go_simp; with_reducible rfl); simp only [Act.put, List.setIfInBounds_toArray, List.set_cons_succ, List.set_cons_zero])
        refine Rg.ord_nil ?_
        have hradd := radd_any (show RdIn w9.drew Sr r (run (l.take k)) from HR9.out.below (Below.refl _ w9).drew) HOk.out HRl.out n.id n.ps _ c' _ (vs_move (w' := w9.drew) HV.out fun b hb => (HG9.out.low.drew).block b hb) (by have := HFn.out.1; omega) ⟨by have := HFn.out.2.1; omega, fun p hp => by have := HFn.out.2.2 p hp; omega⟩
        rw [← HNx.out, ← HM.out] at hradd
        have HRa := hide hradd
        clear hradd
        go_wp2
        refine Rg.wp_region_ord (fun w' => w'.cell? ⟨b, o + k * 3, none⟩ = some (.string ⟨n.id.toArray⟩) ∧ w'.cell? ⟨b, o + k * 3 + 1, none⟩ = some (.slice A' M c')) [(0, true), (1, true), (2, true), (3, true), (4, true), (5, true), (6, true), (7, true), (8, true), (9, true), (10, true), (11, false), (12, true)] (by kernel_rfl) (by kernel_rfl) ?_
        simp only [Rg.pick, List.map_cons, List.map_nil, List.getD_cons_zero, List.getD_cons_succ]
        iterate 11 (refine Rg.ord_quiet (v := ?_) rfl (fun w' hS => ?_) hc9 ?_; rotate_left; (obtain ⟨s1, s2⟩ := hS; go_simp; with_reducible rfl); simp only [Act.put, List.setIfInBounds_toArray, List.set_cons_succ, List.set_cons_zero])
        refine Rg.ord_loud (by rfl) (fun K hK => ?_)
        go_simp
        refine HRa.out.mono ?_
        rintro y w10 ⟨v10, S10, rfl, ho10', hr10, ho10, hs10, hnb10⟩
        have hG10 := gd_oth HC.out (HG9.out.stay HC.out (Below.refl _ w9).drew) ho10 fun k hk => ⟨.inl (by first | exact hk | exact .inl hk), HS.out k hk⟩
        have HG10 := hide (hG10.imp (F' := S10) fun k hk => by
          rcases hs10 k hk with z | z
          · exact .inl (.inl (by first | exact z | exact .inl z))
          · exact .inr ⟨z, hr10.lt k hk⟩)
        have HR10 := hide hr10
        have HS10 := hide (show ∀ b, S10 b → w.heap.size ≤ b from fun b hb => by
          rcases hs10 b hb with z | z
          · exact HS.out b z
          · exact Nat.le_trans HG9.out.low.size z)
        have HNwl0 := hide (owt_max ho10')
        have HVx := hide (vs_low (vs_move (w' := w10) HV9.out fun b hb => ho10.block b (show b < w9.drew.heap.size from HV9lt.out b hb) fun hsb => by have h1 := HVb.out b hb; have h2 := HSl.out b hsb; omega))
        obtain ⟨A10, c10, rfl, hv10, _⟩ := own_vs ho10'
        have HVy := hide hv10
        have hc10 := HX.out w10 HG10.out.low
        clear hr10 ho10 ho10' hv10 hs10 hnb10 hG10 HRa hc9 HG9 HR9 HV9 HV9lt HVb HSl
        refine hK _ _ (fun _ => hc10) ?_
        clear hK K
        iterate 1 (refine Rg.ord_quiet (v := ?_) rfl (fun w' hS => ?_) hc10 ?_; rotate_left; (obtain ⟨s1, s2⟩ := hS; go_simp; with_reducible rfl); simp only [Act.put, List.setIfInBounds_toArray, List.set_cons_succ, List.set_cons_zero])
        refine Rg.ord_nil ?_
        clear hc10
        rw [← HNw.out] at HVx HVy HNwl0 ⊢
        have HNwl := HNwl0
        clear HNwl0
        rw [← HNx.out] at HOk2
        obtain ⟨D1, hD1⟩ : ∃ z, z = run (l.take (k + 1)) := ⟨_, rfl⟩
        rw [← hD1] at HG10 HR10 HOk2
        have HFw := hide (okd_fw HOk2.out (by rw [hD1]; exact run_fine fun n hn => HFe.out n (List.mem_of_mem_take hn)))
        have HLe := hide HFw.out.len
        have HD1 := hide hD1
        clear hD1
        have HI1 := ids_any (nw) (nw) A9 A10 c9 c10 _ _ w10 HVx.out HVy.out (by exact HNwl.out)
        rw [decide_eq_true rfl] at HI1
        have HX2 := hide (HI1)
        go_wp2_with fail
        refine HX2.out.mono ?_
        rintro e wq3 ⟨rfl, hb⟩
        have HG4 := hide (HG10.out.stay HC.out hb)
        have HR5 := hide (HR10.out.below hb)
        clear hb HX2 HG10 HR10
        have HX6 := hide (HG4.out.ids HC.out)
        go_wp2_with fail
        refine HX6.out.mono ?_
        rintro e wq7 ⟨v, rfl, ho, hb⟩
        obtain ⟨Aq8, cq9, rfl, hv, _⟩ := own_vs ho
        have HVq10 := hide hv
        have HG11 := hide (HG4.out.stay HC.out hb)
        have HR12 := hide (HR5.out.below hb)
        clear hb HX6 HG4 HR5 ho hv
        have HX13 := hide (rall_any HR12.out (by have := HLe.out; omega) true)
        go_wp2_with fail
        refine HX13.out.mono ?_
        rintro e wq14 ⟨v, rfl, ho, hb⟩
        obtain ⟨Aq15, cq16, rfl, hv, _⟩ := own_vs ho
        have HVq17 := hide hv
        have HG18 := hide (HG11.out.stay HC.out hb)
        have HR19 := hide (HR12.out.below hb)
        have HVk20 := hide (vs_low (vs_keep HVq10.out hb))
        clear hb HX13 HG11 HR12 HVq10 ho hv
        have HI21 := ids_any (all D1 true) (all D1 true) Aq8 Aq15 cq9 cq16 _ _ wq14 HVk20.out HVq17.out (by have := all_len D1 true; have := HLe.out; omega)
        rw [decide_eq_true rfl] at HI21
        have HX22 := hide (HI21)
        go_wp2_with fail
        refine HX22.out.mono ?_
        rintro e wq23 ⟨rfl, hb⟩
        have HG24 := hide (HG18.out.stay HC.out hb)
        have HR25 := hide (HR19.out.below hb)
        clear hb HX22 HG18 HR19
        have HX26 := hide (HG24.out.waiting HC.out)
        go_wp2_with fail
        refine HX26.out.mono ?_
        rintro e wq27 ⟨v, rfl, ho, hb⟩
        obtain ⟨Aq28, cq29, rfl, hv, _⟩ := own_vs ho
        have HVq30 := hide hv
        have HG31 := hide (HG24.out.stay HC.out hb)
        have HR32 := hide (HR25.out.below hb)
        clear hb HX26 HG24 HR25 ho hv
        have HX33 := hide (rall_any HR32.out (by have := HLe.out; omega) false)
        go_wp2_with fail
        refine HX33.out.mono ?_
        rintro e wq34 ⟨v, rfl, ho, hb⟩
        obtain ⟨Aq35, cq36, rfl, hv, _⟩ := own_vs ho
        have HVq37 := hide hv
        have HG38 := hide (HG31.out.stay HC.out hb)
        have HR39 := hide (HR32.out.below hb)
        have HVk40 := hide (vs_low (vs_keep HVq30.out hb))
        clear hb HX33 HG31 HR32 HVq30 ho hv
        have HI41 := ids_any (all D1 false) (all D1 false) Aq28 Aq35 cq29 cq36 _ _ wq34 HVk40.out HVq37.out (by have := all_len D1 false; have := HLe.out; omega)
        rw [decide_eq_true rfl] at HI41
        have HX42 := hide (HI41)
        go_wp2_with fail
        refine HX42.out.mono ?_
        rintro e wq43 ⟨rfl, hb⟩
        have HG44 := hide (HG38.out.stay HC.out hb)
        have HR45 := hide (HR39.out.below hb)
        clear hb HX42 HG38 HR39
        have HX46 := hide (HG44.out.lacks HC.out)
        go_wp2_with fail
        refine HX46.out.mono ?_
        rintro e wq47 ⟨v, rfl, ho, hb⟩
        obtain ⟨Aq48, cq49, rfl, hv, _⟩ := own_vs ho
        have HVq50 := hide hv
        have HG51 := hide (HG44.out.stay HC.out hb)
        have HR52 := hide (HR45.out.below hb)
        clear hb HX46 HG44 HR45 ho hv
        have HX53 := hide (rlacks_any HR52.out HFw.out)
        go_wp2_with fail
        refine HX53.out.mono ?_
        rintro e wq54 ⟨v, rfl, ho, hb⟩
        obtain ⟨Aq55, cq56, rfl, hv, _⟩ := own_vs ho
        have HVq57 := hide hv
        have HG58 := hide (HG51.out.stay HC.out hb)
        have HR59 := hide (HR52.out.below hb)
        have HVk60 := hide (vs_low (vs_keep HVq50.out hb))
        clear hb HX53 HG51 HR52 HVq50 ho hv
        have HI61 := ids_any (lacks D1) (lacks D1) Aq48 Aq55 cq49 cq56 _ _ wq54 HVk60.out HVq57.out (by have := (lackUp_short HFw.out D1 fun n h => h).2; rw [← lacks_up] at this; have := HLe.out; omega)
        rw [decide_eq_true rfl] at HI61
        have HX62 := hide (HI61)
        go_wp2_with fail
        refine HX62.out.mono ?_
        rintro e wq63 ⟨rfl, hb⟩
        have HG64 := hide (HG58.out.stay HC.out hb)
        have HR65 := hide (HR59.out.below hb)
        clear hb HX62 HG58 HR59
        have HX66 := hide (HG64.out.many HC.out)
        go_wp2_with fail
        refine HX66.out.mono ?_
        rintro e wq67 ⟨rfl, hb⟩
        have HG68 := hide (HG64.out.stay HC.out hb)
        have HR69 := hide (HR65.out.below hb)
        clear hb HX66 HG64 HR65
        have HX70 := hide (rall_any HR69.out (by have := HLe.out; omega) true)
        go_wp2_with fail
        refine HX70.out.mono ?_
        rintro e wq71 ⟨v, rfl, ho, hb⟩
        obtain ⟨Aq72, cq73, rfl, hv, _⟩ := own_vs ho
        have HVq74 := hide hv
        have HG75 := hide (HG68.out.stay HC.out hb)
        have HR76 := hide (HR69.out.below hb)
        clear hb HX70 HG68 HR69 ho hv
        go_wp2
        exact ⟨⟨k + 1, S10, by omega, by go_num, by show Hid _; rw [← HD1.out]; exact HG75, by show Hid _; rw [← HD1.out]; exact HR76, by show Hid _; exact HS10⟩, by simp [intOf]; omega⟩
      · obtain rfl : N = k := by omega
        obtain ⟨D, hD⟩ : ∃ z, z = run l := ⟨_, rfl⟩
        have HG2 := hide (show GD In w wr g D (fun _ => False) from by
          have := HG.out
          rw [HN.out, List.take_length, ← hD] at this
          exact this.imp fun _ h => h.elim)
        have HR2 := hide (show RdIn wr Sr r D from by
          have := HR.out
          rwa [HN.out, List.take_length, ← hD] at this)
        have HFw := hide (okd_fw HG2.out.ok (by rw [hD]; exact run_fine HFe.out))
        have HLe := hide HFw.out.len
        have HI := hide HG2.out.ok.inv
        clear hD HG HR
        go_wp2
        go_loopw [14] (fun kv wz => ∃ k : Nat, k ≤ N ∧ kv = .int .i64 k ∧ Hid (GD In w wz g D (fun _ => False)) ∧ Hid (RdIn wz Sr r D)) (fun kv _ => N - (intOf kv).toNat)
        case atStart => exact ⟨0, Nat.zero_le _, rfl, by show Hid _; exact HG2, by show Hid _; exact HR2⟩
        case round =>
          clear HG2 HR2
          obtain ⟨k, hk, rfl, HG, HR⟩ := hrel
          by_cases hlt : k < N
          · obtain ⟨n, hx⟩ : ∃ n, l[k]? = some n := ⟨_, List.getElem?_eq_getElem (by have := HN.out; omega)⟩
            obtain ⟨b, o, A', c', rfl, hX, _⟩ := Hs.out.ever hx
            have hc := (hX wr HG.out.low).1
            have hfe := HFe.out n (List.mem_of_getElem? hx)
            have hid : n.id.length ≤ 50 := by omega
            have HId := hide hid
            obtain ⟨id, hid2⟩ : ∃ z, z = n.id := ⟨_, rfl⟩
            rw [← hid2] at hc HId
            clear hx hX hfe hid hid2
            have HX77 := hide (HG.out.has HC.out id HId.out)
            go_wp2_with fail
            refine HX77.out.mono ?_
            rintro e wq78 ⟨rfl, hb⟩
            have HG79 := hide (HG.out.stay HC.out hb)
            have HR80 := hide (HR.out.below hb)
            clear hb HX77 HG HR
            have HX81 := hide (rhas_any HR80.out (by have := HLe.out; omega) id)
            go_wp2_with fail
            refine HX81.out.mono ?_
            rintro e wS ⟨rfl, hwS⟩
            subst hwS
            clear HX81
            have HX82 := hide (HG79.out.level HC.out id HId.out)
            go_wp2_with fail
            refine HX82.out.mono ?_
            rintro e wq83 ⟨rfl, hb⟩
            have HG84 := hide (HG79.out.stay HC.out hb)
            have HR85 := hide (HR80.out.below hb)
            clear hb HX82 HG79 HR80
            have HX86 := hide (rlevel_any HR85.out HI.out HFw.out id)
            go_wp2_with fail
            refine HX86.out.mono ?_
            rintro e wq87 ⟨rfl, hb⟩
            have HG88 := hide (HG84.out.stay HC.out hb)
            have HR89 := hide (HR85.out.below hb)
            clear hb HX86 HG84 HR85
            have HX90 := hide (HG88.out.parents HC.out id HId.out)
            go_wp2_with fail
            refine HX90.out.mono ?_
            rintro e wq91 ⟨v, rfl, ho, hb⟩
            obtain ⟨Aq92, cq93, rfl, hv, _⟩ := own_vs ho
            have HVq94 := hide hv
            have HG95 := hide (HG88.out.stay HC.out hb)
            have HR96 := hide (HR89.out.below hb)
            clear hb HX90 HG88 HR89 ho hv
            have HX97 := hide (rparents_any HR96.out (by have := HLe.out; omega) id)
            go_wp2_with fail
            refine HX97.out.mono ?_
            rintro e wq98 ⟨Aq99, cq100, rfl, hv, hb⟩
            have HVq101 := hide (vs_low hv)
            have HG102 := hide (HG95.out.stay HC.out hb)
            have HR103 := hide (HR96.out.below hb)
            have HVk104 := hide (vs_low (vs_keep HVq94.out hb))
            clear hb HX97 HG95 HR96 HVq94 hv
            have HI105 := ids_any (parents D id) (parents D id) Aq92 Aq99 cq93 cq100 _ _ wq98 HVk104.out HVq101.out (by have := fw_parents HFw.out id; omega)
            rw [decide_eq_true rfl] at HI105
            have HX106 := hide (HI105)
            go_wp2_with fail
            refine HX106.out.mono ?_
            rintro e wq107 ⟨rfl, hb⟩
            have HG108 := hide (HG102.out.stay HC.out hb)
            have HR109 := hide (HR103.out.below hb)
            clear hb HX106 HG102 HR103
            go_wp2
            exact ⟨⟨k + 1, by omega, by go_num, by show Hid _; exact HG108, by show Hid _; exact HR109⟩, by simp [intOf]; omega⟩
          · obtain rfl : N = k := by omega
            have HX110 := hide (HG.out.heads HC.out)
            go_wp2_with fail
            refine HX110.out.mono ?_
            rintro e wq111 ⟨v, rfl, ho, hb⟩
            obtain ⟨Aq112, cq113, rfl, hv, _⟩ := own_vs ho
            have HVq114 := hide hv
            have HG115 := hide (HG.out.stay HC.out hb)
            have HR116 := hide (HR.out.below hb)
            clear hb HX110 HG HR ho hv
            have HX117 := hide (rheads_any HR116.out HFw.out)
            go_wp2_with fail
            refine HX117.out.mono ?_
            rintro e wq118 ⟨v, rfl, ho, hb⟩
            obtain ⟨Aq119, cq120, rfl, hv, _⟩ := own_vs ho
            have HVq121 := hide hv
            have HG122 := hide (HG115.out.stay HC.out hb)
            have HR123 := hide (HR116.out.below hb)
            have HVk124 := hide (vs_low (vs_keep HVq114.out hb))
            clear hb HX117 HG115 HR116 HVq114 ho hv
            have HI125 := ids_any (heads D) (heads D) Aq112 Aq119 cq113 cq120 _ _ wq118 HVk124.out HVq121.out (by have := List.length_filter_le (fun n : Nd => n.on && !hdB n.id D) D; rw [heads_hd]; unfold hdL; rw [List.length_map]; have := HLe.out; omega)
            rw [decide_eq_true rfl] at HI125
            have HX126 := hide (HI125)
            go_wp2_with fail
            refine HX126.out.mono ?_
            rintro e wq127 ⟨rfl, hb⟩
            have HG128 := hide (HG122.out.stay HC.out hb)
            have HR129 := hide (HR123.out.below hb)
            clear hb HX126 HG122 HR123
            have HX130 := hide (HG128.out.above HC.out xa xb HXa.out HXb.out)
            go_wp2_with fail
            refine HX130.out.mono ?_
            rintro e wq131 ⟨rfl, hb⟩
            have HG132 := hide (HG128.out.stay HC.out hb)
            have HR133 := hide (HR129.out.below hb)
            clear hb HX130 HG128 HR129
            have HX134 := hide (rabove_any HR133.out HI.out (by have := HLe.out; omega) (fw_all HFw.out) (fw_parents HFw.out) xa xb)
            go_wp2_with fail
            refine HX134.out.mono ?_
            rintro e wq135 ⟨rfl, hb⟩
            have HG136 := hide (HG132.out.stay HC.out hb)
            have HR137 := hide (HR133.out.below hb)
            clear hb HX134 HG132 HR133
            have HX138 := hide (HG136.out.has HC.out xa HXa.out)
            go_wp2_with fail
            refine HX138.out.mono ?_
            rintro e wq139 ⟨rfl, hb⟩
            have HG140 := hide (HG136.out.stay HC.out hb)
            have HR141 := hide (HR137.out.below hb)
            clear hb HX138 HG136 HR137
            have HX142 := hide (rhas_any HR141.out (by have := HLe.out; omega) xa)
            go_wp2_with fail
            refine HX142.out.mono ?_
            rintro e wS ⟨rfl, hwS⟩
            subst hwS
            clear HX142
            have HX143 := hide (HG140.out.level HC.out xb HXb.out)
            go_wp2_with fail
            refine HX143.out.mono ?_
            rintro e wq144 ⟨rfl, hb⟩
            have HG145 := hide (HG140.out.stay HC.out hb)
            have HR146 := hide (HR141.out.below hb)
            clear hb HX143 HG140 HR141
            have HX147 := hide (rlevel_any HR146.out HI.out HFw.out xb)
            go_wp2_with fail
            refine HX147.out.mono ?_
            rintro e wq148 ⟨rfl, hb⟩
            have HG149 := hide (HG145.out.stay HC.out hb)
            have HR150 := hide (HR146.out.below hb)
            clear hb HX147 HG145 HR146
            go_wp2
            go_ret
            exact ⟨by simp, HG149.out.low⟩
end Go.Proofs.Ytplmcpdlommmaaa.Oq
