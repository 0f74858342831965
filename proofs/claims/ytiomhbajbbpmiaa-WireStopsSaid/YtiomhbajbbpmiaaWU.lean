/-
  The walk of the statement WireStops.
-/
import Derived.Test.YtiomhbajbbpmiaaWL
import Derived.Test.YtiomhbajbbpmiaaWS

namespace Go.Proofs.Ytiomhbajbbpmiaa.Wr
open Go Go.RowKit Kt Lw

set_option maxHeartbeats 2000000 in
set_option maxRecDepth 100000 in
theorem stops_late (bs : List UInt8) (l m : List Int) (A A1 A2 : Option Addr) (c c1 c2 : Nat) (Pb : Nat → Prop) (w : World) (hs : Sl w Pb A c bs) (hl : Vs w Pb A1 c1 (nums .i64 l)) (hm : Vs w Pb A2 c2 (nums .i64 m))
    (hlb : ∀ z ∈ l, z ≤ 9223372036854775807) (hmb : ∀ z ∈ m, z ≤ 9223372036854775807) (h1 : bs.length ≤ 200) (h2 : l.length ≤ 40) (h3 : m.length ≤ 40) :
    Calls Try.prog 7 #[.slice A bs.length c, .slice A1 l.length c1, .slice A2 m.length c2] w fun e w' => e = .returned (.bool true) ∧ Below w.heap.size w w' := by
  have Hs := hide hs
  have Hl := hide hl
  have Hm := hide hm
  have Hlb := hide hlb
  have Hmb := hide hmb
  clear hs hl hm hlb hmb
  go_enter Try.func7, Try.ntmps7
  go_wp2_with (go_at_call 10; refine (awake_any _).mono ?_; rintro e w1 ⟨rfl, hb1⟩; have Hb1 := hide hb1; clear hb1)
  refine (open_any bs A c _ w1 (Hs.out.move fun b _ hb => Hb1.out.block b hb) (by omega)).mono ?_
  rintro y w2 ⟨g, rfl, hr2, hb2⟩
  have Hr2 := hide hr2
  have Hb2 := hide (Hb1.out.trans (hb2.mono Hb1.out.size))
  have Hg := hide (show w.heap.size ≤ g by have := hr2.from; have := Hb1.out.size; omega)
  clear hr2 hb2
  go_wp2_with fail
  go_loopw [9] (fun i wr => ∃ (k : Nat) (bs' : List UInt8) (e : Nat), k ≤ l.length ∧ i = .int .i64 k ∧ Rd wr w1.heap.size g bs' e ∧ Below w.heap.size w wr) (fun i _ => l.length - (intOf i).toNat)
  case atStart => exact ⟨0, bs, 0, Nat.zero_le _, rfl, Hr2.out, Hb2.out⟩
  case round =>
    obtain ⟨k, bs', e, hk, rfl, hr, hb⟩ := hrel
    have Hr := hide hr
    have Hb := hide hb
    clear hr hb
    by_cases hlt : k < l.length
    · obtain ⟨z, hz⟩ : ∃ z, z = l.getD k 0 := ⟨_, rfl⟩
      obtain ⟨b, o, rfl, _, hc⟩ := (Hl.out.below Hb.out).2 (by rw [nums_len]; omega)
      have ck := hc k _ (nums_at .i64 l k hlt)
      rw [← hz] at ck
      have Hzb := hide (Hlb.out z (by rw [hz, List.getD_eq_getElem?_getD, List.getElem?_eq_getElem hlt]; exact List.getElem_mem _))
      have hl1 := Hl.out.1
      rw [nums_len] at hl1
      clear hc hz
      by_cases hz0 : z < 0
      · go_wp2_with (go_at_call 17; go_loud (refine (read_num Hr.out).mono ?_; rintro y w3 ⟨rfl, hr3, ho3⟩))
        refine ⟨⟨k + 1, _, _, by omega, by go_num, hr3, ho3.below Hb.out Hb.out.size fun b hb he => by have := Hg.out; omega⟩, by simp [intOf]; omega⟩
      · go_wp2_with (go_at_call 19; go_loud (refine (read_text z Hr.out Hzb.out).mono ?_; rintro y w3 ⟨v3, rfl, hv3, hr3, ho3⟩))
        refine ⟨⟨k + 1, _, _, by omega, by go_num, hr3, ho3.below Hb.out Hb.out.size fun b hb he => by have := Hg.out; omega⟩, by simp [intOf]; omega⟩
    · obtain rfl : k = l.length := by omega
      go_wp2_with fail
      refine (fail_any Hr.out).mono ?_
      rintro y w4 ⟨rfl, rfl⟩
      by_cases he : e = 0
      · subst he
        go_wp2
        go_ret
        exact ⟨rfl, Hb.out⟩
      · have he0 : ((e : Int) == 0) = false := beq_eq_false_iff_ne.2 (by omega)
        have hsn : stepNum bs' e = (0, bs', e) := by unfold stepNum; rw [if_neg he]
        have hst : ∀ z, stepText bs' e z = ([], bs', e) := fun z => by unfold stepText; rw [if_neg he]
        have hen : endOf bs' e = e := by unfold endOf; rw [if_neg he]
        have Hsn := hide hsn
        have Hst := hide hst
        have Hen := hide hen
        clear hsn hst hen
        go_wp2_with fail
        refine (left_any Hr.out).mono ?_
        rintro y w5 ⟨rfl, rfl⟩
        go_wp2_with fail
        go_loopw [12] (fun i wx => ∃ (k : Nat), k ≤ m.length ∧ i = .int .i64 k ∧ Rd wx w1.heap.size g bs' e ∧ Below w.heap.size w wx) (fun i _ => m.length - (intOf i).toNat)
        case atStart => exact ⟨0, Nat.zero_le _, rfl, Hr.out, Hb.out⟩
        case round =>
          clear Hr Hb
          obtain ⟨k, hk, rfl, hr, hb⟩ := hrel
          have Hr := hide hr
          have Hb := hide hb
          clear hr hb
          by_cases hlt : k < m.length
          · obtain ⟨z, hz⟩ : ∃ z, z = m.getD k 0 := ⟨_, rfl⟩
            obtain ⟨b, o, rfl, _, hc⟩ := Hm.out.2 (by rw [nums_len]; omega)
            have ck0 := hc k _ (nums_at .i64 m k hlt)
            rw [← hz] at ck0
            have hblt := World.block_lt_of_cell? w ⟨b, o + k, none⟩ ck0
            have Hck : Hid (∀ wx, Below w.heap.size w wx → wx.cell? ⟨b, o + k, none⟩ = some (.int .i64 z)) := hide fun wx hbx => (World.cell?_of_block (a := ⟨b, o + k, none⟩) (hbx.block b hblt)).trans ck0
            have ck := Hck.out _ Hb.out
            clear ck0 hblt
            have Hzb := hide (Hmb.out z (by rw [hz, List.getD_eq_getElem?_getD, List.getElem?_eq_getElem hlt]; exact List.getElem_mem _))
            have hm1 := Hm.out.1
            rw [nums_len] at hm1
            clear hc hz
            by_cases hz0 : z < 0
            · go_wp2_with (go_at_call 17; go_loud (refine (read_num Hr.out).mono ?_; rintro y w3 ⟨rfl, hr3, ho3⟩; rw [Hsn.out] at hr3 ⊢; have Hr3 := hide hr3; have Hb3 := hide (ho3.below Hb.out Hb.out.size fun b hb he => by have := Hg.out; omega); have ck3 := Hck.out _ Hb3.out; clear hr3 ho3))
              refine ⟨⟨k + 1, by omega, by go_num, Hr3.out, Hb3.out⟩, by simp [intOf]; omega⟩
            · go_wp2_with (go_at_call 19; go_loud (refine (read_text z Hr.out Hzb.out).mono ?_; rintro y w3 ⟨v3, rfl, hv3, hr3, ho3⟩; rw [Hst.out] at hr3 hv3; obtain ⟨A3, c3, rfl, _⟩ := Is.own hv3; simp only [List.length_nil]; have Hr3 := hide hr3; have Hb3 := hide (ho3.below Hb.out Hb.out.size fun b hb he => by have := Hg.out; omega); have ck3 := Hck.out _ Hb3.out; clear hv3 hr3 ho3))
              refine ⟨⟨k + 1, by omega, by go_num, Hr3.out, Hb3.out⟩, by simp [intOf]; omega⟩
          · obtain rfl : k = m.length := by omega
            go_wp2_with fail
            refine (left_any Hr.out).mono ?_
            rintro y w5 ⟨rfl, rfl⟩
            go_wp2_with fail
            refine (fail_any Hr.out).mono ?_
            rintro y w5 ⟨rfl, rfl⟩
            go_wp2_with fail
            refine (end_any Hr.out).mono ?_
            rintro y w6 ⟨rfl, hb6⟩
            rw [Hen.out]
            have Hb6 := hide (Hb.out.trans (hb6.mono Hb.out.size))
            clear hb6
            go_wp2
            go_ret
            exact ⟨rfl, Hb6.out⟩
end Go.Proofs.Ytiomhbajbbpmiaa.Wr
