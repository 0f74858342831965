/-
  Rows of numbers that the reference's Of makes, and its table.
-/
import Derived.Test.YtcmjdepjckhpdabDoorRfC
import Derived.Test.YtcmjdepjckhpdabDoorQLwA
namespace Go.Proofs.YtcmjdepjckhpdabDoor.Dg
open Go Go.RowKit Kt Sha

/-- the reference's table of the numbers k lies in its block -/
def TabR (w : World) : Prop := ∀ i, i < 64 → w.cell? ⟨0, i, none⟩ = some (.int .u32 (keys.getD i 0 : Nat))
theorem TabR.lt {w : World} (h : TabR w) : 0 < w.heap.size := World.block_lt_of_cell? w _ (h 0 (by omega))
theorem TabR.below {w w' : World} (h : TabR w) (hb : Below w.heap.size w w') : TabR w' := fun i hi => (hb.cell (p := ⟨0, i, none⟩) h.lt).trans (h i hi)

theorem OwnW.made (w : World) (B : Nat) (hB : B ≤ w.heap.size) : OwnW (w.alloc (.cells #[] 70)) B (.slice (some ⟨w.heap.size, 0, none⟩) 0 0) [] :=
  World.ownsRow_made w #[] 0 hB (Nat.zero_le _) rfl
theorem OwnW.fresh (w : World) (B : Nat) (l : List Nat) (hB : B ≤ w.heap.size) (hl : l.length ≤ maxLen) : OwnW (w.alloc (.cells (u32s l).toArray 70)) B (.slice (some ⟨w.heap.size, 0, none⟩) l.length l.length) l :=
  ⟨by simp [u32s], .inr ⟨w.heap.size, l.length, (u32s l).toArray, rfl, hB, heap_alloc_new w _, Nat.le_refl _, hl, by simp [u32s], (by simp [u32s]; exact List.take_of_length_le (by simp))⟩⟩
theorem first_cells : (u32s first.list).toArray = #[Value.int .u32 1779033703, .int .u32 3144134277, .int .u32 1013904242, .int .u32 2773480762, .int .u32 1359893119, .int .u32 2600822924, .int .u32 528734635, .int .u32 1541459225] := rfl

/-- append of a row of numbers that lies in a block -/
theorem wpList_catW {ops : Array Oper} {Q : Exit → Act → World → Prop} {o : Oper} {rest : List Oper} {a : Act} {w : World}
    (hgd : o.guard = none) (s x : Operand) (ho : o.op = .call { callee := .builtin .append, args := #[s, x], argTypes := #[71, 71] })
    (B : Nat) (w0 : World) (v : Value) (l ys : List Nat) (g c : Nat) (hs : a.eval s = v) (hx : a.eval x = .slice (some ⟨g, 0, none⟩) ys.length c)
    (hown : OwnW w B v l) (hr : Row w g 70 (u32s ys)) (hlen : l.length + ys.length ≤ 7036874417766) (hb : Below B w0 w) (hbase : B ≤ w.heap.size)
    (h : ∀ v' w', OwnW w' B v' (l ++ ys) → Below B w0 w' → wpList Tryd.prog ops Q rest (a.put o.dst v') w') : wpList Tryd.prog ops Q (o :: rest) a w := by
  obtain ⟨i0, hi0, hz0, hz1, hz2⟩ := info_parts infoW
  refine wpList_append_own _ hgd s x 71 ho B 70 i0 (.int .u32 0) 1 4 Tryd.underlying71 hi0 hz0 hz1 hz2 rfl (by omega) v l.length (u32s l) hs hown ⟨g, 0, none⟩ ys.length c (u32s ys) hx (by simp [u32s])
    (fun j u hu => ?_) (u32s_one _) (by unfold maxLen; omega) (by omega) hbase (fun v' w' h1 h2 _ => ?_)
  · rw [Addr.add_mid, hr.cell]
    simpa using hu
  · refine h v' w' ?_ (hb.grown h2 hbase fun k hk => (World.ownsRow.lt hown k hk).1)
    unfold OwnW
    rw [List.length_append, u32s_append]
    exact h1

/-- the reference's own spelling of ch -/
theorem rch_val {e f g : Nat} (he : e < 4294967296) (hf : f < 4294967296) (hg : g < 4294967296) :
    bits BinOp.xor .u32 (bits BinOp.and .u32 (e : Int) (f : Int)) (bits BinOp.and .u32 (4294967295 - (e : Int)) (g : Int)) = (ch e f g : Nat) := by
  rw [show (4294967295 - (e : Int)) = ((4294967295 - e : Nat) : Int) from by omega, u32_and_nat _ _ he hf, u32_and_nat _ _ (by omega) hg, u32_xor_nat _ _ (and_lt hf) (and_lt hg)]; rfl
end Go.Proofs.YtcmjdepjckhpdabDoor.Dg
namespace Go.Proofs.YtcmjdepjckhpdabDoor.Dg
open Go Go.RowKit Kt Sha

/-- what the reference's Of comes to -/
def RefOf : Prop := ∀ (bs : List UInt8) (A : Option Addr) (c : Nat) (Pb : Nat → Prop) (w : World), Sl w Pb A c bs → bs.length ≤ 300 → TabR w →
  Calls Tryd.prog 15 #[.slice A bs.length c] w fun e w' => e = .returned (.string ⟨(sha bs).toArray⟩) ∧ Below w.heap.size w w'

end Go.Proofs.YtcmjdepjckhpdabDoor.Dg
