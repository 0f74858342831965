/-
  The statement DigestParts' walk.
-/
import Derived.Test.YthdhlefhgjncfaaDoorLwB
import Derived.Test.YthdhlefhgjncfaaDoorRegB
namespace Go.Proofs.YthdhlefhgjncfaaDoor.Dg
open Go Go.RowKit Kt Sha

theorem hash_drew {w : World} {g : Nat} {t : List UInt8} (h : HashAt w g t) : HashAt w.drew g t := by
  obtain ⟨last, h⟩ := h
  exact ⟨last, h.row.drew, h.len, h.tail⟩
theorem hash_below {w w' : World} {g : Nat} {t : List UInt8} (h : HashAt w g t) (hb : Below w.heap.size w w') : HashAt w' g t := by
  obtain ⟨last, h⟩ := h
  exact ⟨last, h.row.below hb h.row.lt, h.len, h.tail⟩
theorem sl_take {w : World} {P : Nat → Prop} {A : Option Addr} {c k : Nat} {bs : List UInt8} (h : Sl w P A c bs) (hk : k ≤ bs.length) : Sl w P A c (bs.take k) := by
  have hl : (bs.take k).length = k := by rw [List.length_take]; omega
  refine ⟨by rw [hl]; have := h.1; omega, fun hn => ?_⟩
  rw [hl] at hn
  obtain ⟨b, o, rfl, hp, hc⟩ := h.2 (by omega)
  refine ⟨b, o, rfl, hp, fun j hj => ?_⟩
  rw [hl] at hj
  rw [hc j (by omega)]
  simp [List.getD_eq_getElem?_getD, hj]

set_option maxHeartbeats 1000000 in
set_option maxRecDepth 100000 in
theorem parts_any (bs cu : List UInt8) (A A2 : Option Addr) (c c2 : Nat) (Pb Pc : Nat → Prop) (w : World) (hs : Sl w Pb A c bs) (hs2 : Sl w Pc A2 c2 cu) (ht : Tab w) (hn : bs.length ≤ 9223372036854775807) (hn2 : cu.length ≤ 9223372036854775807) :
    Calls Tryd.prog 5 #[.slice A bs.length c, .slice A2 cu.length c2] w fun e w' => e = .returned (.bool true) ∧ Below w.heap.size w w' := by
  have Ht := hide ht
  have Hs := hide hs
  have Hs2 := hide hs2
  have Htl := hide ht.lt
  clear ht hs hs2
  by_cases h1 : 300 < bs.length
  · go_enter Tryd.func5, Tryd.ntmps5
    go_wp2_with (go_at_call 8; refine (awake_any _ Ht.out).mono ?_; rintro e w1 ⟨rfl, hb1⟩; have Hb1 := hide hb1; clear hb1)
    go_ret
    exact ⟨rfl, Hb1.out⟩
  · have g1 : decide ((300 : Int) < (bs.length : Int)) = false := by simp; omega
    by_cases h2 : 20 < cu.length
    · go_enter Tryd.func5, Tryd.ntmps5
      go_wp2_with (go_at_call 8; refine (awake_any _ Ht.out).mono ?_; rintro e w1 ⟨rfl, hb1⟩; have Hb1 := hide hb1; clear hb1)
      go_ret
      exact ⟨rfl, Hb1.out⟩
    · have g2 : decide ((20 : Int) < (cu.length : Int)) = false := by simp; omega
      go_enter Tryd.func5, Tryd.ntmps5
      go_wp2_with (first
        | (go_at_call 8; refine (awake_any _ Ht.out).mono ?_; rintro e w1 ⟨rfl, hb1⟩; have Hb1 := hide hb1; clear hb1)
        | (go_at_call 15; refine (new_any _).mono ?_; rintro e w2 ⟨rfl, hh2, hb2⟩; have Hh2 := hide hh2; have Hb2 := hide hb2; clear hh2 hb2))
      have Htab2 := hide (Ht.out.below (Hb1.out.trans (Hb2.out.mono Hb1.out.size)))
      have Hb12 := hide (Hb1.out.trans (Hb2.out.mono Hb1.out.size))
      have hz1 := Hb1.out.size
      go_loopw [7, 8] (fun v7 v8 wr => ∃ (done r : List UInt8) (A' : Option Addr) (c' i : Nat), Hid (bs = done ++ r) ∧ v7 = .slice A' r.length c' ∧ i ≤ cu.length ∧ v8 = .int .i64 i ∧ Hid (Sl wr (fun b => b ≠ w1.heap.size) A' c' r) ∧ Hid (HashAt wr w1.heap.size done) ∧ Hid (Below w.heap.size w wr)) (fun _ v8 _ => cu.length - (intOf v8).toNat)
      case atStart =>
        exact ⟨[], bs, A, c, 0, rfl, rfl, Nat.zero_le _, rfl, ((Hs.out.bound).move fun b hp _ => Hb12.out.block b hp.2).imp fun b _ hp => (by have := hp.2; omega), Hh2.out, Hb12.out⟩
      case round =>
        obtain ⟨done, r, A', c', i, Hbs, rfl, hi, rfl, Hsl, Hh, Hb⟩ := hrel
        have hrl : r.length ≤ bs.length := by rw [Hbs.out, List.length_append]; omega
        by_cases hlt : i < cu.length
        · obtain ⟨b2, o2, hA2, hPc, hcell⟩ := Hs2.out.2 (by omega)
          subst hA2
          have hx := hcell i hlt
          have hbl : b2 < w.heap.size := World.block_lt_of_cell? w ⟨b2, o2 + i, none⟩ hx
          have c1 : wr.cell? ⟨b2, o2 + i, none⟩ = some (.int .u8 ((cu.getD i 0).toNat : Int)) := (Hb.out.cell (p := ⟨b2, o2 + i, none⟩) hbl).trans hx
          clear hcell hx hPc
          have hx8 := toNat_lt (cu.getD i 0)
          generalize (cu.getD i 0).toNat = x at *
          have hk : x % (r.length + 1) ≤ r.length := by have := Nat.mod_lt x (show 0 < r.length + 1 by omega); omega
          have i0 : 0 ≤ (x : Int) % ((r.length : Int) + 1) := Int.emod_nonneg _ (by omega)
          have i1 : (x : Int) % ((r.length : Int) + 1) ≤ r.length := by have := Int.emod_lt_of_pos (x : Int) (show 0 < (r.length : Int) + 1 by omega); omega
          have i2 : (x : Int) % ((r.length : Int) + 1) ≤ (c' : Int) := by have := Hsl.out.1; omega
          go_wp2_with (go_at_call 16; fail)
          have hlk : (r.take (x % (r.length + 1))).length = x % (r.length + 1) := by rw [List.length_take]; omega
          have hdl : done.length + r.length = bs.length := by rw [Hbs.out, List.length_append]
          have hw := write_any done (r.take (x % (r.length + 1))) w1.heap.size A' c' wr Hh.out (sl_take Hsl.out hk) (Ht.out.below Hb.out) (by have := Htl.out; omega) (by rw [hlk]; omega)
          rw [hlk] at hw
          refine hw.mono ?_
          rintro e w3 ⟨rfl, hh3, hg3⟩
          have Hh3 := hide hh3
          have Hb3 := hide (Hb.out.grown hg3 Hb.out.size (fun k hk => by injection hk with hk; omega))
          have Hsl3 := hide ((Hsl.out.move fun b hp hb => hg3.block b hb (fun e => hp (by injection e))).cut hk)
          clear hh3 hg3 hw
          have hlk2 : Hid ((r.drop (x % (r.length + 1))).length = r.length - x % (r.length + 1)) := List.length_drop
          have hq : x % (r.length + 1) ≤ c' := by have := Hsl.out.1; omega
          have HT : Hid (bs.take (bs.length - (r.length - x % (r.length + 1))) = done ++ r.take (x % (r.length + 1))) := by
            show _ = _
            rw [show bs.length - (r.length - x % (r.length + 1)) = done.length + x % (r.length + 1) from by omega, Hbs.out, List.take_append, List.take_of_length_le (by omega), show done.length + x % (r.length + 1) - done.length = x % (r.length + 1) from by omega]
          have HL : Hid ((bs.take (bs.length - (r.length - x % (r.length + 1)))).length = bs.length - (r.length - x % (r.length + 1))) := by
            show _ = _
            rw [List.length_take]; omega
          by_cases hck : c' = x % (r.length + 1)
          all_goals
            go_wp2
            obtain ⟨m, hm⟩ : ∃ m, m = r.length - x % (r.length + 1) := ⟨_, rfl⟩
            rw [← hm]
            rw [← hm] at HT HL hlk2
            have hm0 : m ≤ bs.length := by omega
            have hcap : bs.length ≤ c := Hs.out.1
            have Hm := hide hm
            clear hm
            obtain ⟨q, hq⟩ : ∃ q, q = bs.length - m := ⟨_, rfl⟩
            have hqb : q ≤ bs.length := hq ▸ Nat.sub_le _ _
            have hqc : q ≤ c := Nat.le_trans hqb hcap
            have hjw : IntKind.i64.wrap ((bs.length : Int) - (m : Int)) = (q : Int) := by rw [IntWalk.i64_in _ (by omega)]; omega
            rw [← hq] at HT HL
            have Hq := hide hq
            clear hq
            refine Rg.wp_region_ord (fun _ => True) [(0, true), (2, true), (3, true), (4, true), (5, true), (6, true), (7, true), (8, true), (1, false), (9, false), (10, true)] (by kernel_rfl) (by kernel_rfl) ?_
            simp only [Rg.pick, List.map_cons, List.map_nil, List.getD_cons_zero, List.getD_cons_succ]
            iterate 8 (refine Rg.ord_quiet (v := ?_) rfl (fun w' _ => ?_) trivial ?_; rotate_left; (go_simp; with_reducible rfl))
            refine Rg.ord_loud rfl (fun K hK => ?_)
            go_simp
            have Hb3d := hide Hb3.out.drew
            have Hsl3d := hide Hsl3.out.drew
            have Hh3d := hide (hash_drew Hh3.out)
            refine (sum_any _ _ _ Hh3d.out (Ht.out.below Hb3d.out) (by have := Htl.out; omega) (by rw [List.length_append, hlk]; omega)).mono ?_
            rintro e w4 ⟨rfl, hb4⟩
            have Hb4 := hide hb4
            have Hb5 := hide (Hb3d.out.trans (hb4.mono Hb3d.out.size))
            clear hb4
            refine hK _ _ (fun _ => trivial) ?_
            clear hK K
            refine Rg.ord_loud rfl (fun K hK => ?_)
            go_simp
            have ho := of_any (bs.take q) A c _ w4 (sl_take ((Hs.out.bound).move fun b hb _ => Hb5.out.block b hb.2) hqb) (Ht.out.below Hb5.out) (by rw [HL.out]; omega)
            rw [HL.out, HT.out] at ho
            refine ho.mono ?_
            rintro e w5 ⟨rfl, hb6⟩
            have Hb6 := hide (Hb5.out.trans (hb6.mono Hb5.out.size))
            have Hh5 := hide (show HashAt w5 w1.heap.size (done ++ r.take (x % (r.length + 1))) from by
              obtain ⟨last, h⟩ := Hh3d.out
              exact ⟨last, (h.row.below Hb4.out h.row.lt).below hb6 (by have := h.row.lt; have := Hb4.out.size; omega), h.len, h.tail⟩)
            have Hsl5 := hide (Hsl3d.out.move fun b _ hb => (hb6.block b (by have := Hb4.out.size; omega)).trans (Hb4.out.block b hb))
            clear hb6 ho
            refine hK _ _ (fun _ => trivial) ?_
            clear hK K
            refine Rg.ord_quiet (v := ?_) rfl (fun w' _ => ?_) trivial ?_
            rotate_left
            · go_simp
              with_reducible rfl
            refine Rg.ord_nil ?_
            simp only [Act.put, List.setIfInBounds_toArray, List.set_cons_succ, List.set_cons_zero]
            go_wp2
            go_roundw
            case rel =>
              refine ⟨done ++ r.take (x % (r.length + 1)), r.drop (x % (r.length + 1)), _, _, i + 1, ?_, ?_, by omega, by go_num, Hsl5.out, Hh5.out, Hb6.out⟩
              · show _ = _
                rw [List.append_assoc, List.take_append_drop]; exact Hbs.out
              · rw [hlk2.out]
                simp [hck]
            case measure => simp [intOf]; omega
        · go_wp2_with (go_at_call 16; fail)
          have hdl : done.length + r.length = bs.length := by rw [Hbs.out, List.length_append]
          refine (write_any done r w1.heap.size A' c' wr Hh.out Hsl.out (Ht.out.below Hb.out) (by have := Htl.out; omega) (by omega)).mono ?_
          rintro e w3 ⟨rfl, hh3, hg3⟩
          rw [← Hbs.out] at hh3
          have Hh3 := hide hh3
          have Hb3 := hide (Hb.out.grown hg3 Hb.out.size (fun k hk => by injection hk with hk; omega))
          clear hh3 hg3
          go_wp2_with (go_at_call 17; fail)
          refine (sum_any bs w1.heap.size _ Hh3.out (Ht.out.below Hb3.out) (by have := Htl.out; omega) (by omega)).mono ?_
          rintro e w4 ⟨rfl, hb4⟩
          have Hh4 := hide (hash_below Hh3.out hb4)
          have Hb4 := hide (Hb3.out.trans (hb4.mono Hb3.out.size))
          clear hb4
          go_wp2_with (go_at_call 9; fail)
          refine (of_any bs A c _ w4 ((Hs.out.bound).move fun b hb _ => Hb4.out.block b hb.2) (Ht.out.below Hb4.out) (by omega)).mono ?_
          rintro e w5 ⟨rfl, hb5⟩
          have Hh5 := hide (hash_below Hh4.out hb5)
          have Hb5 := hide (Hb4.out.trans (hb5.mono Hb4.out.size))
          clear hb5
          go_wp2_with (go_at_call 17; fail)
          refine (sum_any bs w1.heap.size _ Hh5.out (Ht.out.below Hb5.out) (by have := Htl.out; omega) (by omega)).mono ?_
          rintro e w6 ⟨rfl, hb6⟩
          have Hb6 := hide (Hb5.out.trans (hb6.mono Hb5.out.size))
          clear hb6
          go_wp2
          go_ret
          exact ⟨rfl, Hb6.out⟩
end Go.Proofs.YthdhlefhgjncfaaDoor.Dg
