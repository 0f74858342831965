/-
  What is there, and what is left, are the room: the law DiskRoom.
-/
import Derived.Test.YtahcokfoifdlmaaSG
namespace Go.Proofs.Ytahcokfoifdlmaa.Dk
open Go Go.RowKit Kt Kg Wr Lw

theorem DkIn.drewN {w : World} {S : Nat → Prop} {g : Nat} {s : St} (h : DkIn w S g s) (n : Nat) : DkIn (w.drewN n) S g s := h
set_option maxHeartbeats 4000000 in
set_option maxRecDepth 100000 in
theorem lawRoom_any (room : Nat) (L : List Op) (A : Option Addr) (c : Nat) (w : World) (hs : Ops w A c L) (hsm : ∀ o ∈ L, o.small) (hl : L.length ≤ 9223372036854775807) (_hr : room ≤ 65535) :
    Calls Try.prog 7 #[.int .u16 (room : Int), .slice A L.length c] w fun y w' => y = .returned (.bool true) ∧ Below w.heap.size w w' := by
  have HWk := hide (wake_any w)
  have HFew := hide (fun (wz : World) (h : Below w.heap.size w wz) => few_any L A c wz (hs.keep h) hl)
  obtain ⟨n, hn⟩ : ∃ n, n = room % 1001 := ⟨_, rfl⟩
  have hn1 : n ≤ 1000 := by omega
  have hmod : ((room : Int)).tmod 1001 = (n : Int) := by rw [hn]; rfl
  have HNew := hide (fun wz => new_yes n (by omega) wz)
  have Hs := hide hs
  have Hsm := hide hsm
  obtain ⟨N, hN⟩ : ∃ N, N = L.length := ⟨_, rfl⟩
  rw [← hN] at hl HFew ⊢
  have HN := hide hN
  clear hs hsm hN hn
  go_enter Try.func7, Try.ntmps7
  go_wp2_with fail
  refine HWk.out.mono ?_
  rintro y w1 ⟨rfl, hb1⟩
  have HB1 := hide hb1
  clear hb1 HWk
  go_wp2_with fail
  refine (HFew.out w1 HB1.out).mono ?_
  rintro y w2 ⟨rfl, hb2⟩
  have HB2 := hide (HB1.out.trans (hb2.mono HB1.out.size))
  clear hb2 HFew HB1
  go_wp2_with fail
  refine (HNew.out w2).mono ?_
  rintro y w3 ⟨g, rfl, hD, hg, hb3⟩
  have HB3 := hide (HB2.out.trans (hb3.mono HB2.out.size))
  have HD := hide hD
  have HG := hide (show w.heap.size ≤ g by have := HB2.out.size; omega)
  clear hD hg hb3 HB2 HNew
  generalize hfew : few L = fw
  cases fw with
  | false =>
    clear hfew
    go_wp2
    go_ret
    exact ⟨rfl, HB3.out⟩
  | true =>
    have hN40 : N ≤ 40 := by have := (few_is hfew).1; have := HN.out; omega
    clear hfew
    go_wp2
    go_loopw [10] (fun i wr => ∃ k : Nat, k ≤ N ∧ i = .int .i64 k ∧ (∃ S, DkIn wr S g (run (new n) (L.take k)) ∧ ∀ b, S b → w.heap.size ≤ b) ∧ Below w.heap.size w wr) (fun i _ => N - (intOf i).toNat)
    case atStart => exact ⟨0, Nat.zero_le _, rfl, ⟨_, HD.out, fun b e => by have := HG.out; omega⟩, HB3.out⟩
    case round =>
      obtain ⟨k, hk, rfl, ⟨S, hD, hS⟩, hb⟩ := hrel
      have Hb := hide hb
      have HS := hide hS
      have HX := hide (run_fit (new_fit (show n ≤ 16777216 by omega)) (L.take k) fun o ho => Hsm.out o (List.mem_of_mem_take ho))
      have HR := hide (run_room (new n) (L.take k))
      have HNx := hide (fun (h : k < L.length) => take_step L k h (new n))
      generalize run (new n) (L.take k) = s at *
      have HD := hide hD
      clear hD hS hb
      by_cases hlt : k < N
      · obtain ⟨b, o, e, Ae, ce, rfl, hke, ⟨c0, c1, c2⟩, hv⟩ := Hs.out.at Hb.out (k := k) (by have := HN.out; omega)
        have hkl : k < L.length := by have := HN.out; omega
        have hes : e.small := Hsm.out e (List.mem_of_getElem? hke)
        have hge : L.getD k ⟨0, [], 0⟩ = e := by simp [List.getD_eq_getElem?_getD, hke]
        have HNx2 := hide (HNx.out hkl)
        rw [hge] at HNx2
        have HP := hide (do_any HD.out HX.out e Ae ce _ hv)
        have HPd := hide (fun h : e.kind = 0 => show decide ((step s e).2 = 9) = (step s e).1.dead by unfold step; rw [if_pos h]; exact put_dead s e.b)
        have HX2 := hide (step_fit HX.out hes)
        have HR2 := hide (show (step s e).1.room = n from (step_room s e).trans HR.out)
        have HCs := hide (fun (wz : World) (h : Below wr.heap.size wr wz) => show wz.cell? ⟨b, o + k * 3, none⟩ = some (.int .u8 (e.kind : Int)) from (World.cell?_of_block (a := ⟨b, o + k * 3, none⟩) (h.block b (World.block_lt_of_cell? wr _ c0))).trans c0)
        have HCb := hide (show b < w.heap.size from by
          obtain ⟨b', o', he', hlt', _⟩ := Hs.out.2 (by omega)
          injection he' with he'
          injection he' with he' _ _
          rw [he']; exact hlt')
        obtain ⟨M, hM⟩ : ∃ M, M = e.b.length := ⟨_, rfl⟩
        rw [← hM] at HP c1
        clear hke hv hes hge HNx HX HR hM
        go_wp2_with fail
        refine HP.out.mono ?_
        rintro y w4 ⟨rfl, S4, hD4, hO4, hS4⟩
        clear HP
        generalize (step s e).2 = er at *
        generalize (step s e).1 = s' at *
        have HS4 := hide (fun b hb => (hS4 b hb).elim (HS.out b) fun h => Nat.le_trans Hb.out.size h)
        have HB4 := hide (oth_low hO4 Hb.out HS.out)
        have HD4 := hide hD4
        have k0 := (World.cell?_of_block (a := ⟨b, o + k * 3, none⟩) (hO4.block b (World.block_lt_of_cell? wr _ c0) fun x => by have := HS.out _ x; have := HCb.out; omega)).trans c0
        have HK0 := hide k0
        obtain ⟨N1, hN1⟩ : ∃ N1, N1 = s'.k.length := ⟨_, rfl⟩
        have HN1 := hide hN1
        have HZ := hide (fun (wz : World) (h : DkIn wz S4 g s') => size_any h)
        have HL := hide (fun (wz : World) (h : DkIn wz S4 g s') => left_any h HX2.out)
        have HBy := hide (fun (wz : World) (h : DkIn wz S4 g s') => bytes_call h HX2.out)
        have HDe := hide (fun (wz : World) (h : DkIn wz S4 g s') => dead_any h)
        have hfit := HX2.out.1
        rw [HR2.out] at HL hfit
        rw [← hN1] at HZ HL hfit
        obtain ⟨R, hR⟩ : ∃ R, R = n - N1 := ⟨_, rfl⟩
        rw [← hR] at HL
        have hw1 : IntKind.i64.wrap ((N1 : Int) + (R : Int)) = (n : Int) := by rw [IntWalk.i64_in _ (by omega)]; omega
        have d1 : decide ((N1 : Int) < 0) = false := decide_eq_false (by omega)
        have d2 : decide ((R : Int) < 0) = false := decide_eq_false (by omega)
        clear hD4 hO4 hS4 HD HS hN1 hR hfit k0 c0 c1 c2 HCs
        go_wp2_with fail
        refine (HZ.out w4 HD4.out).mono ?_
        rintro y w5 ⟨rfl, rfl⟩
        go_wp2_with fail
        refine (HL.out w4 HD4.out).mono ?_
        rintro y w5 ⟨rfl, m, hw⟩
        have HD5 := hide (show DkIn w5 S4 g s' by rw [hw]; exact HD4.out)
        have HB5 := hide (show Below w.heap.size w w5 by rw [hw]; exact below_drewN HB4.out m)
        have HK5 := hide (show w5.cell? ⟨b, o + k * 3, none⟩ = some (.int .u8 (e.kind : Int)) by rw [hw]; exact HK0.out)
        clear hw HD4 HB4 HK0
        go_wp2_with fail
        refine (HZ.out w5 HD5.out).mono ?_
        rintro y w6 ⟨rfl, rfl⟩
        go_wp2_with fail
        refine (HL.out w5 HD5.out).mono ?_
        rintro y w6 ⟨rfl, m2, hw⟩
        have HD6 := hide (show DkIn w6 S4 g s' by rw [hw]; exact HD5.out)
        have HB6 := hide (show Below w.heap.size w w6 by rw [hw]; exact below_drewN HB5.out m2)
        have HK6 := hide (show w6.cell? ⟨b, o + k * 3, none⟩ = some (.int .u8 (e.kind : Int)) by rw [hw]; exact HK5.out)
        clear hw HD5 HB5 HK5
        go_wp2_with fail
        refine (HBy.out w6 HD6.out).mono ?_
        rintro y w7 ⟨v, rfl, hown, hb7⟩
        have HD7 := hide (HD6.out.below hb7)
        have HB7 := hide (HB6.out.trans (hb7.mono HB6.out.size))
        have k7 := (World.cell?_of_block (a := ⟨b, o + k * 3, none⟩) (hb7.block b (World.block_lt_of_cell? w6 _ HK6.out))).trans HK6.out
        obtain ⟨A7, c7, hv, _⟩ := hown.sl
        rw [← HN1.out] at hv
        subst hv
        clear hown hb7 HD6 HB6 HK6 HBy HL
        go_wp2_with fail
        refine (HZ.out w7 HD7.out).mono ?_
        rintro y w8 ⟨rfl, rfl⟩
        have HEnd := hide (show (∃ S, DkIn w7 S g (run (new n) (L.take (k + 1))) ∧ ∀ b, S b → w.heap.size ≤ b) ∧ Below w.heap.size w w7 from ⟨⟨S4, by rw [HNx2.out]; exact HD7.out, HS4.out⟩, HB7.out⟩)
        clear HZ
        by_cases hK0 : e.kind = 0
        · have hk0 : ((e.kind : Int) == 0) = true := by rw [beq_iff_eq]; omega
          have hpd := HPd.out hK0
          have hdd : ((er : Int) == 9) = s'.dead := by
            rw [← hpd, Bool.eq_iff_iff, beq_iff_eq, decide_eq_true_eq]; omega
          clear hK0 hpd
          generalize hsd : s'.dead = dd at *
          go_wp2_with fail
          refine (HDe.out w7 HD7.out).mono ?_
          rintro y w8 ⟨rfl, rfl⟩
          have hne : (dd != dd) = false := by simp
          go_wp2
          exact ⟨⟨k + 1, by omega, by go_num, HEnd.out⟩, by simp [intOf]; omega⟩
        · have hk0 : ((e.kind : Int) == 0) = false := by rw [beq_eq_false_iff_ne]; omega
          clear hK0
          go_wp2
          exact ⟨⟨k + 1, by omega, by go_num, HEnd.out⟩, by simp [intOf]; omega⟩
      · obtain rfl : k = N := by omega
        go_wp2
        go_ret
        exact ⟨rfl, Hb.out⟩
end Go.Proofs.Ytahcokfoifdlmaa.Dk
