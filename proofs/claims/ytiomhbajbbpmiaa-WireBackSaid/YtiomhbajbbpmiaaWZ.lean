/-
  The walk of the statement WireBack.
-/
import Derived.Test.YtiomhbajbbpmiaaWY
import Derived.Test.YtiomhbajbbpmiaaWL
namespace Go.Proofs.Ytiomhbajbbpmiaa.Wr
open Go Go.RowKit Kt Lw

set_option maxHeartbeats 4000000 in
set_option maxRecDepth 100000 in
theorem back_late (l : List Int) (m : List (List UInt8)) (A A1 : Option Addr) (c c1 : Nat) (w : World) (hl : Vs w (fun _ => True) A c (nums .u64 l)) (hm : Vs w (fun _ => True) A1 c1 (texts m))
    (hlb : ∀ z ∈ l, 0 ≤ z ∧ z ≤ 18446744073709551615) (hmb : ∀ s ∈ m, s.length ≤ 9223372036854775807) (h1 : l.length ≤ 20) (h2 : m.length ≤ 20) :
    Calls Try.prog 5 #[.slice A l.length c, .slice A1 m.length c1] w fun e w' => e = .returned (.bool true) ∧ Below w.heap.size w w' := by
  have Hl := hide hl
  have Hm := hide hm
  have Hlb := hide hlb
  have Hmb := hide hmb
  have hl1 := hl.1
  have hm1 := hm.1
  rw [nums_len] at hl1
  rw [texts_len] at hm1
  clear hl hm hlb hmb
  go_enter Try.func5, Try.ntmps5
  go_wp2_with (go_at_call 10; refine (awake_any _).mono ?_; rintro e w1 ⟨rfl, hb1⟩; have Hb1 := hide hb1; clear hb1)
  go_loopw [6, 7] (fun v i wr => ∃ (k : Nat), k ≤ l.length ∧ i = .int .i64 k ∧ Own wr w.heap.size 5 v (putN (l.take k)) ∧ Below w.heap.size w wr) (fun _ i _ => l.length - (intOf i).toNat)
  case atStart => exact ⟨0, Nat.zero_le _, rfl, Own.nil _ _ _, Hb1.out⟩
  case round =>
    obtain ⟨k, hk, rfl, hown, hb⟩ := hrel
    have Hb := hide hb
    by_cases hlt : k < l.length
    · obtain ⟨A3, c3, rfl, hs3⟩ := Is.own hown
      have Hs3 := hide hs3
      clear hown hb hs3
      obtain ⟨b, o, rfl, _, hc⟩ := Hl.out.2 (by rw [nums_len]; omega)
      have ck0 := hc k _ (nums_at .u64 l k hlt)
      have hzb := Hlb.out (l.getD k 0) (by rw [List.getD_eq_getElem?_getD, List.getElem?_eq_getElem hlt]; exact List.getElem_mem _)
      have Htk := hide (putN_take l k hlt)
      have Hln := hide (putN_len l (fun z hz => (Hlb.out z hz).2) k hk)
      obtain ⟨n, hn⟩ : ∃ n : Nat, l.getD k 0 = (n : Int) := ⟨(l.getD k 0).toNat, by omega⟩
      rw [hn] at ck0 Htk
      have Hn64 := hide (show n < 18446744073709551616 by omega)
      have ck := (World.cell?_of_block (a := ⟨b, o + k, none⟩) (Hb.out.block b (World.block_lt_of_cell? w ⟨b, o + k, none⟩ ck0))).trans ck0
      clear ck0 hc hzb hn
      generalize putN (l.take k) = L at *
      go_wp2_with (go_at_call 12; go_loud (refine (num_any L n A3 c3 _ wr Hs3.out Hn64.out (by have := Hln.out; omega)).mono ?_; rintro y w3 ⟨v3, rfl, hv3, hb3⟩))
      refine ⟨⟨k + 1, by omega, by go_num, ?_, Hb.out.trans (hb3.mono Hb.out.size)⟩, by simp [intOf]; omega⟩
      rw [Htk.out]
      exact hv3.base Hb.out.size
    · obtain rfl : k = l.length := by omega
      rw [List.take_length] at hown
      have Hown := hide hown
      have Hln := hide (show (putN l).length ≤ 10 * l.length by have := putN_len l (fun z hz => (Hlb.out z hz).2) l.length (Nat.le_refl _); rwa [List.take_length] at this)
      clear hown hb
      go_wp2_with fail
      go_loopw [6, 8] (fun v i wx => ∃ (k : Nat), k ≤ m.length ∧ i = .int .i64 k ∧ (∀ j, j < k → (m.getD j []).length ≤ 40) ∧ Own wx w.heap.size 5 v (putN l ++ putT (m.take k)) ∧ Below w.heap.size w wx) (fun _ i _ => m.length - (intOf i).toNat)
      case atStart => exact ⟨0, Nat.zero_le _, rfl, fun j h => absurd h (Nat.not_lt_zero _), by simpa [putT] using Hown.out, Hb.out⟩
      case round =>
        clear Hown Hb
        obtain ⟨k, hk, rfl, hall, hown, hb⟩ := hrel
        have Hb := hide hb
        have Hall := hide hall
        by_cases hlt : k < m.length
        · obtain ⟨A3, c3, rfl, hs3⟩ := Is.own hown
          have Hs3 := hide hs3
          clear hown hb hs3 hall
          obtain ⟨b, o, rfl, _, hc⟩ := Hm.out.2 (by rw [texts_len]; omega)
          have ck0 := hc k _ (texts_at m k hlt)
          have hsb := Hmb.out (m.getD k []) (by rw [List.getD_eq_getElem?_getD, List.getElem?_eq_getElem hlt]; exact List.getElem_mem _)
          have Htk := hide (putT_take m k hlt)
          have Htl := hide (putT_len m k hk Hall.out)
          obtain ⟨s, hs⟩ : ∃ s, m.getD k [] = s := ⟨_, rfl⟩
          rw [hs] at ck0 Htk hsb
          have Hsk := hide hs
          have ck := (World.cell?_of_block (a := ⟨b, o + k, none⟩) (Hb.out.block b (World.block_lt_of_cell? w ⟨b, o + k, none⟩ ck0))).trans ck0
          clear ck0 hc hs
          by_cases h40 : 40 < s.length
          · go_wp2
            go_ret
            exact ⟨rfl, Hb.out⟩
          · obtain ⟨cap, ob, hcv, hcs⟩ := conv_bytes s wr
            have Hcs := hide hcs
            clear hcs
            obtain ⟨L, hL⟩ : ∃ L, putN l ++ putT (m.take k) = L := ⟨_, rfl⟩
            have Hll := hide (show L.length ≤ 1200 by have := Hln.out; have := Htl.out; rw [← hL, List.length_append]; omega)
            have Hnew := hide (show putN l ++ putT (m.take (k + 1)) = L ++ (form s.length ++ s) by rw [Htk.out, ← List.append_assoc, hL])
            rw [hL] at Hs3 ⊢
            clear hL
            go_wp2_with fail
            have hb3 : Below wr.heap.size wr (wr.alloc ob).drew := ((Below.refl _ _).alloc (Nat.le_refl _) _).drew
            refine (text_put L s A3 c3 _ cap _ _ (wr.alloc ob).drew (Hs3.out.belowAll hb3) Hcs.out (by have := Hll.out; omega)).mono ?_
            rintro y w4 ⟨v4, rfl, hv4, hb4⟩
            have Hv4 := hide hv4
            have Hb4 := hide (Hb.out.trans ((hb3.trans (hb4.mono hb3.size)).mono Hb.out.size))
            have Hsz := hide (Nat.le_trans Hb.out.size hb3.size)
            clear hb3 hv4 hb4
            go_wp2
            refine ⟨⟨k + 1, by omega, by go_num, fun j hj => ?_, ?_, Hb4.out⟩, by simp [intOf]; omega⟩
            · rcases Nat.lt_or_ge j k with hj' | hj'
              · exact Hall.out j hj'
              · obtain rfl : j = k := by omega
                rw [Hsk.out]; omega
            · rw [Hnew.out]
              exact Hv4.out.base Hsz.out
        · obtain rfl : k = m.length := by omega
          rw [List.take_length] at hown
          have Htl := hide (show (putT m).length ≤ 50 * m.length by have := putT_len m m.length (Nat.le_refl _) hall; rwa [List.take_length] at this)
          obtain ⟨A3, c3, rfl, hs3⟩ := Is.own hown
          have Hs3 := hide hs3
          obtain ⟨L, hL⟩ : ∃ L, putN l ++ putT m = L := ⟨_, rfl⟩
          have Hll := hide (show L.length ≤ 1200 by have := Hln.out; have := Htl.out; rw [← hL, List.length_append]; omega)
          have HL := hide hL
          rw [hL] at Hs3 ⊢
          clear hown hs3 hL hall hb
          go_wp2_with fail
          refine (open_any L A3 c3 _ wr Hs3.out (by have := Hll.out; omega)).mono ?_
          rintro y w5 ⟨g, rfl, hr5, hb5⟩
          have Hr5 := hide hr5
          have Hb5 := hide (Hb.out.trans (hb5.mono Hb.out.size))
          have Hg := hide (show w.heap.size ≤ g by have := hr5.from; have := Hb.out.size; omega)
          obtain ⟨B, hB⟩ : ∃ B, B = wr.heap.size := ⟨_, rfl⟩
          rw [← hB] at Hr5
          clear hr5 hb5 hB Hs3
          go_wp2_with fail
          go_loopw [10] (fun i wx => ∃ (k : Nat), k ≤ l.length ∧ i = .int .i64 k ∧ Rd wx B g (putN (l.drop k) ++ putT m) 0 ∧ Below w.heap.size w wx) (fun i _ => l.length - (intOf i).toNat)
          case atStart => exact ⟨0, Nat.zero_le _, rfl, by rw [List.drop_zero, HL.out]; exact Hr5.out, Hb5.out⟩
          case round =>
            clear Hr5 Hb5 Hb
            obtain ⟨k, hk, rfl, hr, hb⟩ := hrel
            have Hr := hide hr
            have Hb := hide hb
            clear hr hb
            by_cases hlt : k < l.length
            · obtain ⟨b, o, rfl, _, hc⟩ := Hl.out.2 (by rw [nums_len]; omega)
              have ck0 := hc k _ (nums_at .u64 l k hlt)
              have hzb := Hlb.out (l.getD k 0) (by rw [List.getD_eq_getElem?_getD, List.getElem?_eq_getElem hlt]; exact List.getElem_mem _)
              have htk := putN_drop l k hlt
              obtain ⟨n, hn⟩ : ∃ n : Nat, l.getD k 0 = (n : Int) := ⟨(l.getD k 0).toNat, by omega⟩
              rw [hn] at ck0 htk
              have hn64 : n < 18446744073709551616 := by omega
              have ck := (World.cell?_of_block (a := ⟨b, o + k, none⟩) (Hb.out.block b (World.block_lt_of_cell? w ⟨b, o + k, none⟩ ck0))).trans ck0
              have Hblt := hide (World.block_lt_of_cell? w ⟨b, o + k, none⟩ ck0)
              have hstep := stepNum_put n (putN (l.drop (k + 1)) ++ putT m) hn64
              rw [Int.toNat_natCast] at htk
              have Hst := hide (show stepNum (putN (l.drop k) ++ putT m) 0 = (n, putN (l.drop (k + 1)) ++ putT m, 0) by rw [htk, List.append_assoc]; exact hstep)
              clear ck0 hc hzb hn htk hn64 hstep
              go_wp2_with fail
              refine Rg.wp_region_ord (fun w' => w'.cell? ⟨b, o + k, none⟩ = some (.int .u64 (n : Int))) [(0, true), (2, true), (3, true), (4, true), (5, true), (1, false), (6, true)] (by kernel_rfl) (by kernel_rfl) ?_
              simp only [Rg.pick, List.map_cons, List.map_nil, List.getD_cons_zero, List.getD_cons_succ]
              iterate 5 (refine Rg.ord_quiet (v := ?_) rfl (fun w' hS => ?_) ck ?_; rotate_left; (go_simp; with_reducible rfl); simp only [Act.put, List.setIfInBounds_toArray, List.set_cons_succ, List.set_cons_zero])
              refine Rg.ord_loud rfl (fun K hK => ?_)
              go_simp
              refine (read_num Hr.out.drew).mono ?_
              rintro y w6 ⟨rfl, hr6, ho6⟩
              rw [Hst.out] at hr6 ⊢
              have Hr6 := hide hr6
              have Hb6 := hide (ho6.below Hb.out.drew Hb.out.size fun b hb he => by have := Hg.out; omega)
              have ck6 : w6.cell? ⟨b, o + k, none⟩ = some (.int .u64 (n : Int)) := (World.cell?_of_block (a := ⟨b, o + k, none⟩) (ho6.block b (Nat.lt_of_lt_of_le Hblt.out Hb.out.size) fun he => by have := Hg.out; have := Hblt.out; simp only at *; omega)).trans ck
              clear hr6 ho6 ck
              refine hK _ _ (fun _ => ck6) ?_
              clear hK K
              refine Rg.ord_quiet (v := ?_) rfl (fun w' hS => ?_) ck6 ?_
              rotate_left
              · clear hS
                go_simp
                with_reducible rfl
              simp only [Act.put, List.setIfInBounds_toArray, List.set_cons_succ, List.set_cons_zero]
              refine Rg.ord_nil ?_
              go_wp2
              refine ⟨⟨k + 1, by omega, by go_num, Hr6.out, Hb6.out⟩, by simp [intOf]; omega⟩
            · obtain rfl : k = l.length := by omega
              rw [List.drop_length] at Hr
              go_wp2_with fail
              go_loopw [11] (fun i wx => ∃ (k : Nat), k ≤ m.length ∧ i = .int .i64 k ∧ Rd wx B g (putT (m.drop k)) 0 ∧ Below w.heap.size w wx) (fun i _ => m.length - (intOf i).toNat)
              case atStart => exact ⟨0, Nat.zero_le _, rfl, by simpa [putN] using Hr.out, Hb.out⟩
              case round =>
                clear Hr Hb
                obtain ⟨k, hk, rfl, hr, hb⟩ := hrel
                have Hr := hide hr
                have Hb := hide hb
                clear hr hb
                by_cases hlt : k < m.length
                · obtain ⟨b, o, rfl, _, hc⟩ := Hm.out.2 (by rw [texts_len]; omega)
                  have ck0 := hc k _ (texts_at m k hlt)
                  have hs40 := Hall.out k (by omega)
                  have htk := putT_drop m k hlt
                  obtain ⟨s, hs⟩ : ∃ s, m.getD k [] = s := ⟨_, rfl⟩
                  rw [hs] at ck0 htk hs40
                  have ck := (World.cell?_of_block (a := ⟨b, o + k, none⟩) (Hb.out.block b (World.block_lt_of_cell? w ⟨b, o + k, none⟩ ck0))).trans ck0
                  have Hblt := hide (World.block_lt_of_cell? w ⟨b, o + k, none⟩ ck0)
                  have Hst := hide (show stepText (putT (m.drop k)) 0 40 = (s, putT (m.drop (k + 1)), 0) by rw [htk]; exact stepText_put s _ 40 (by omega) (by omega))
                  have Hs40 := hide hs40
                  clear ck0 hc hs htk hs40
                  go_wp2_with fail
                  refine Rg.wp_region_ord (fun w' => w'.cell? ⟨b, o + k, none⟩ = some (.string ⟨s.toArray⟩)) [(0, true), (3, true), (4, true), (5, true), (6, true), (1, false), (2, false), (7, true)] (by kernel_rfl) (by kernel_rfl) ?_
                  simp only [Rg.pick, List.map_cons, List.map_nil, List.getD_cons_zero, List.getD_cons_succ]
                  iterate 5 (refine Rg.ord_quiet (v := ?_) rfl (fun w' hS => ?_) ck ?_; rotate_left; (go_simp; with_reducible rfl); simp only [Act.put, List.setIfInBounds_toArray, List.set_cons_succ, List.set_cons_zero])
                  refine Rg.ord_loud rfl (fun K hK => ?_)
                  go_simp
                  refine (read_text 40 Hr.out.drew (by omega)).mono ?_
                  rintro y w6 ⟨v6, rfl, hv6, hr6, ho6⟩
                  rw [Hst.out] at hr6 hv6
                  have hcv := hv6.text 22 9 5 Try.underlying22 Try.underlying5 Try.underlying9
                  have Hr6 := hide hr6
                  have Hb6 := hide (ho6.below Hb.out.drew Hb.out.size fun b hb he => by have := Hg.out; omega)
                  have ck6 : w6.cell? ⟨b, o + k, none⟩ = some (.string ⟨s.toArray⟩) := (World.cell?_of_block (a := ⟨b, o + k, none⟩) (ho6.block b (Nat.lt_of_lt_of_le Hblt.out Hb.out.size) fun he => by have := Hg.out; have := Hblt.out; simp only at *; omega)).trans ck
                  clear hr6 ho6 ck hv6
                  refine hK _ _ (fun _ => ck6) ?_
                  clear hK K
                  refine Rg.ord_loud rfl (fun K hK => ?_)
                  go_simp
                  refine hK _ _ (fun _ => ck6) ?_
                  clear hK K hcv
                  refine Rg.ord_quiet (v := ?_) rfl (fun w' hS => ?_) ck6 ?_
                  rotate_left
                  · clear hS
                    go_simp
                    with_reducible rfl
                  simp only [Act.put, List.setIfInBounds_toArray, List.set_cons_succ, List.set_cons_zero]
                  refine Rg.ord_nil ?_
                  go_wp2
                  refine ⟨⟨k + 1, by omega, by go_num, Hr6.out, Hb6.out⟩, by simp [intOf]; omega⟩
                · obtain rfl : k = m.length := by omega
                  rw [List.drop_length] at Hr
                  have Hr0 : Hid (Rd wr B g [] 0) := hide Hr.out
                  clear Hr
                  go_wp2_with fail
                  refine (end_any Hr0.out).mono ?_
                  rintro y w6 ⟨rfl, hb6⟩
                  have Hr6 := hide (Hr0.out.below hb6)
                  have Hb6 := hide (Hb.out.trans (hb6.mono Hb.out.size))
                  clear hb6
                  simp only [endOf, List.length_nil, Nat.lt_irrefl, if_false, if_true]
                  go_wp2_with fail
                  refine (left_any Hr6.out).mono ?_
                  rintro y w7 ⟨rfl, rfl⟩
                  simp only [List.length_nil]
                  go_wp2
                  go_ret
                  exact ⟨rfl, Hb6.out⟩

set_option maxHeartbeats 2000000 in
set_option maxRecDepth 100000 in
theorem back_early (n p : Nat) (A A1 : Option Addr) (c c1 : Nat) (w : World) (hn : n ≤ 9223372036854775807) (hp : p ≤ 9223372036854775807) (h : 20 < n ∨ (n ≤ 20 ∧ 20 < p)) :
    Calls Try.prog 5 #[.slice A n c, .slice A1 p c1] w fun e w' => e = .returned (.bool true) ∧ Below w.heap.size w w' := by
  rcases h with h | ⟨h, h'⟩ <;>
  · go_enter Try.func5, Try.ntmps5
    go_wp2_with (go_at_call 10; refine (awake_any _).mono ?_; rintro e w1 ⟨rfl, hb1⟩; have Hb1 := hide hb1; clear hb1)
    go_ret
    exact ⟨rfl, Hb1.out⟩
theorem back_any (l : List Int) (m : List (List UInt8)) (A A1 : Option Addr) (c c1 : Nat) (w : World) (hl : Vs w (fun _ => True) A c (nums .u64 l) ∧ ∀ z ∈ l, (Lit.int .u64 z).wf = true) (hm : Vs w (fun _ => True) A1 c1 (texts m) ∧ ∀ s ∈ m, s.length ≤ maxLen)
    (hn : l.length ≤ 9223372036854775807) (hp : m.length ≤ 9223372036854775807) :
    Calls Try.prog 5 #[.slice A l.length c, .slice A1 m.length c1] w fun e w' => e = .returned (.bool true) ∧ Below w.heap.size w w' := by
  by_cases h : 20 < l.length ∨ (l.length ≤ 20 ∧ 20 < m.length)
  · exact back_early _ _ A A1 c c1 w hn hp h
  · exact back_late l m A A1 c c1 w hl.1 hm.1 (fun z hz => bounds_u64 (hl.2 z hz)) (fun s hs => by have := hm.2 s hs; unfold maxLen at this; exact this) (by omega) (by omega)
end Go.Proofs.Ytiomhbajbbpmiaa.Wr
