/-
  The law StorePlays, over any store that keeps the contract.
-/
import Derived.Test.YtcmjdepjckhpdabDoorQWG
namespace Go.Proofs.YtcmjdepjckhpdabDoor.So
open Go Go.RowKit Kt Kg Wr Lw Sha Dk Dg

theorem conv_str (s : List UInt8) (w : World) : ∃ cap ob, (convert 9 38 (.string ⟨s.toArray⟩)).run Tryd.prog w = .ok (.slice (some ⟨w.heap.size, 0, none⟩) s.length cap) (w.drew.alloc ob) ∧ Sl (w.drew.alloc ob) (fun b => b = w.heap.size) (some ⟨w.heap.size, 0, none⟩) cap s := by
  refine ⟨_, _, run_bytes_of_string w 9 38 5 ⟨s.toArray⟩ Tryd.underlying9 Tryd.underlying38 Tryd.underlying5, ?_, fun hn => ⟨_, 0, rfl, rfl, fun j hj => ?_⟩⟩
  · have := grownCap_ge w (ByteArray.size ⟨s.toArray⟩) 0 5
    simpa [ByteArray.size] using this
  · rw [Nat.zero_add, cell_of_row _ w.heap.size j _ _ _ (heap_alloc_new w.drew _), bytesRow_at _ _ _ (by simpa using hj)]
    simp [List.getElem?_eq_getElem hj]
theorem vs_to {w w' : World} {_P : Nat → Prop} {A : Option Addr} {c : Nat} {vs : List Value} (h : Vs w (fun b => b < w.heap.size) A c vs) (hb : Below w.heap.size w w') : Vs w' (fun b => b < w'.heap.size) A c vs :=
  ⟨h.1, fun h0 => by
    obtain ⟨b, o, e, hp, hc⟩ := h.2 h0
    exact ⟨b, o, e, Nat.lt_of_lt_of_le hp hb.size, fun j v hj => (World.cell?_of_block (a := ⟨b, o + j, none⟩) (hb.block b hp)).trans (hc j v hj)⟩⟩
theorem rt_fuse {w : World} {T : Nat → Prop} {h : Nat} {k : Bs} {room : Nat} {has : Bool} {f f' : Int} {dead : Bool} (hr : RtIn w T h ⟨k, room, has, f, dead⟩) :
    RtIn ((w.setCell ⟨h, 2, none⟩ (.bool true)).setCell ⟨h, 3, none⟩ (.int .i64 f')) T h ⟨k, room, true, f', dead⟩ ∧ Oth T w ((w.setCell ⟨h, 2, none⟩ (.bool true)).setCell ⟨h, 3, none⟩ (.int .i64 f')) := by
  obtain ⟨v, h1, h2, h3, h4⟩ := hr
  have o1 := (Oth.refl T w).put (g := h) (i := 2) (.inl h3) (.bool true)
  have o2 := o1.put (g := h) (i := 3) (.inl h3) (.int .i64 f')
  refine ⟨⟨v, (h1.put 2 (.bool true)).put 3 (.int .i64 f'), ?_, h3, fun k hk => Nat.lt_of_lt_of_le (h4 k hk) o2.size⟩, o2⟩
  refine h2.move fun b hb _ => ?_
  exact (Below.heap_setCell _ ⟨h, 3, none⟩ _ b hb.2).trans (Below.heap_setCell w ⟨h, 2, none⟩ _ b hb.2)
theorem rel_fuse (n fuse : Nat) (hf : fuse < 65536) : Rel (fused (new n) (fuse : Int)) ⟨[], n, true, (fuse : Int), false⟩ := by
  have e : (fused (new n) (fuse : Int)).fuse = (fuse : Int) := by
    show (if (fuse : Int) < -1 then (-1 : Int) else (fuse : Int)) = (fuse : Int)
    rw [if_neg (show ¬ ((fuse : Int) < -1) by omega)]
  exact ⟨rfl, rfl, rfl, by rw [e]; exact (decide_eq_true (show (fuse : Int) ≠ -1 by omega)).symm, fun _ => e.symm, Int.natCast_nonneg _, show (fuse : Int) ≤ 9223372036854775807 by omega⟩
end Go.Proofs.YtcmjdepjckhpdabDoor.So
