/-
  unified: readNumber, readSide.
-/
import Derived.Test.YtnehgogajghefaaGreatDoorUH
namespace Go.Proofs.YtnehgogajghefaaGreatDoor.Un
open Go Go.RowKit Kt Lw Li Df Hu

set_option maxRecDepth 100000 in
set_option maxHeartbeats 2000000 in
theorem puint_any (s : List UInt8) (w : World) (hE : Env w) (hl : s.length ≤ 1000000) :
    Calls Tryz.prog 76 #[.string ⟨s.toArray⟩, .int .i64 10, .int .i64 31] w fun y w' => ∃ ev, y = .returned (.tuple #[.int .u64 (pn s : Int), ev]) ∧ (ev = .nilIface ∨ ∃ t p, ev = .iface t p) ∧ Below w.heap.size w w' := by
  have HU := hide (uint_any s w hl)
  have HE := hide (fun w' (hb : Below w.heap.size w w') => hE.keep hb)
  have hpn : pn s = match Lib.parseUintB 31 s with
    | .ok v => v
    | .syntax => 0
    | .range => 2147483647 := rfl
  have Hpn := hide hpn
  clear hpn hE
  match hr : Lib.parseUintB 31 s with
  | .ok v =>
    rw [hr] at HU Hpn
    have Hv := hide (show (pn s : Int) = v by rw [Hpn.out])
    clear hr Hpn
    go_enter Tryz.func76, Tryz.ntmps76
    go_wp2_with fail
    refine HU.out.mono ?_
    rintro y w1 ⟨rfl, hb1⟩
    have Hb1 := hide hb1
    clear hb1
    rw [Lib.uintTupleM]
    go_wp2
    go_ret2
    exact ⟨_, by rw [Hv.out]; rfl, .inl rfl, Hb1.out⟩
  | .syntax =>
    rw [hr] at HU Hpn
    have Hv := hide (show (pn s : Int) = 0 by rw [Hpn.out]; rfl)
    clear hr Hpn
    go_enter Tryz.func76, Tryz.ntmps76
    go_wp2_with fail
    refine HU.out.mono ?_
    rintro y w1 ⟨rfl, hb1⟩
    have Hb1 := hide hb1
    obtain ⟨t, p, hsy⟩ := (HE.out w1 hb1).syn
    have HTe := hide (Tryz.strconv_toError_syntax ⟨#[80, 97, 114, 115, 101, 85, 105, 110, 116]⟩ ⟨s.toArray⟩ 10 31 (.iface t p) w1 (by show s.length ≤ _; omega) hsy (.inr ⟨t, p, rfl⟩))
    clear hb1 hsy
    rw [Lib.uintTupleM]
    go_wp2_with fail
    refine HTe.out.mono ?_
    rintro y w2 ⟨M, rfl, _, _, hb2⟩
    have Hb2 := hide (Hb1.out.trans (hb2.mono Hb1.out.size))
    clear hb2
    go_wp2
    go_ret2
    exact ⟨_, by rw [Hv.out]; rfl, .inr ⟨_, _, rfl⟩, Hb2.out⟩
  | .range =>
    rw [hr] at HU Hpn
    have Hv := hide (show (pn s : Int) = 2147483647 by rw [Hpn.out]; rfl)
    clear hr Hpn
    go_enter Tryz.func76, Tryz.ntmps76
    go_wp2_with fail
    refine HU.out.mono ?_
    rintro y w1 ⟨rfl, hb1⟩
    have Hb1 := hide hb1
    obtain ⟨t, p, hsy⟩ := (HE.out w1 hb1).rng
    have HTe := hide (Tryz.strconv_toError_range ⟨#[80, 97, 114, 115, 101, 85, 105, 110, 116]⟩ ⟨s.toArray⟩ 10 31 (.iface t p) w1 (by show s.length ≤ _; omega) hsy (.inr ⟨t, p, rfl⟩))
    clear hb1 hsy
    rw [Lib.uintTupleM]
    go_wp2_with fail
    refine HTe.out.mono ?_
    rintro y w2 ⟨M, rfl, _, _, hb2⟩
    have Hb2 := hide (Hb1.out.trans (hb2.mono Hb1.out.size))
    clear hb2
    go_wp2
    go_ret2
    exact ⟨_, by rw [Hv.out]; rfl, .inr ⟨_, _, rfl⟩, Hb2.out⟩
set_option maxRecDepth 100000 in
set_option maxHeartbeats 1000000 in
theorem number_any (s : List UInt8) (w : World) (hE : Env w) (hl : s.length ≤ 1000000) :
    Calls Tryz.prog 68 #[.string ⟨s.toArray⟩] w fun y w' => y = .returned (.int .i64 (pn s : Int)) ∧ Below w.heap.size w w' := by
  have HP := hide (puint_any s w hE hl)
  have hle := pn_le s
  generalize pn s = n at *
  have hwr : IntKind.i64.wrap (n : Int) = (n : Int) := IntWalk.i64_in _ (by omega)
  clear hE
  go_enter Tryz.func68, Tryz.ntmps68
  go_wp2_with fail
  refine HP.out.mono ?_
  rintro y w1 ⟨ev, rfl, hev, hb1⟩
  have Hb1 := hide hb1
  clear hb1
  rcases hev with rfl | ⟨t, p, rfl⟩
  · go_wp2
    go_ret
    exact ⟨rfl, Hb1.out⟩
  · go_wp2
    go_ret
    exact ⟨rfl, Hb1.out⟩
end Go.Proofs.YtnehgogajghefaaGreatDoor.Un
