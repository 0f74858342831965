/-
  What digest.mix comes to, where the table of the numbers k lies as the text lays it.
-/
import Derived.Test.YtcmjdepjckhpdabDoorDgA
namespace Go.Proofs.YtcmjdepjckhpdabDoor.Dg
open Go Go.RowKit Kt Sha

/-- the table of the numbers k lies in its block -/
def Tab (w : World) : Prop := ∀ i, i < 64 → w.cell? ⟨1, i, none⟩ = some (.int .u32 (keys.getD i 0 : Nat))
theorem Tab.lt {w : World} (h : Tab w) : 1 < w.heap.size := World.block_lt_of_cell? w _ (h 0 (by omega))
theorem Tab.below {w w' : World} (h : Tab w) (hb : Below w.heap.size w w') : Tab w' := fun i hi => (hb.cell (p := ⟨1, i, none⟩) h.lt).trans (h i hi)

structure Mx (w : World) (s : St) (ws : List Nat) (wr : World) : Prop where
  box : Row wr w.heap.size 90 (u32s s.list)
  two : Row wr (w.heap.size + 1) 74 (u32s ws)
  res : Row wr (w.heap.size + 1 + 1) 90 (u32s [0, 0, 0, 0, 0, 0, 0, 0])
  size : wr.heap.size = w.heap.size + 1 + 1 + 1
  below : Below w.heap.size w wr
  tab : Tab wr
theorem Mx.drewN {w wr : World} {s : St} {ws : List Nat} (h : Mx w s ws wr) (n : Nat) : Mx w s ws (wr.drewN n) :=
  ⟨h.box.drewN n, h.two.drewN n, h.res.drewN n, h.size, below_drewN h.below n, h.tab⟩

def sl (n : Nat) : Value := .int .u32 (n : Int)

theorem not_val {e : Nat} (h : e < 4294967296) : bits BinOp.xor .u32 (if IntKind.u32.signed = true then -1 else IntKind.u32.max) (e : Int) = ((4294967295 - e : Nat) : Int) := by
  rw [show (if IntKind.u32.signed = true then -1 else IntKind.u32.max) = ((4294967295 : Nat) : Int) from by decide, u32_xor_nat _ _ (by omega) h]
  congr 1
  have h32 : e < 2 ^ 32 := h
  have e2 := BitVec.toNat_not (x := BitVec.ofNat 32 e)
  have e3 : (~~~ (BitVec.ofNat 32 e)) = BitVec.allOnes 32 ^^^ BitVec.ofNat 32 e := BitVec.not_def
  rw [e3, BitVec.toNat_xor, BitVec.toNat_allOnes, BitVec.toNat_ofNat, Nat.mod_eq_of_lt h32] at e2
  simpa using e2
theorem ch_val {e f g : Nat} (he : e < 4294967296) (hf : f < 4294967296) (hg : g < 4294967296) :
    bits BinOp.xor .u32 (bits BinOp.and .u32 (e : Int) (f : Int)) (bits BinOp.and .u32 (bits BinOp.xor .u32 (if IntKind.u32.signed = true then -1 else IntKind.u32.max) (e : Int)) (g : Int)) = (ch e f g : Nat) := by
  rw [not_val he, u32_and_nat _ _ he hf, u32_and_nat _ _ (by omega) hg, u32_xor_nat _ _ (and_lt hf) (and_lt hg)]; rfl
theorem maj_val {a b c : Nat} (ha : a < 4294967296) (hb : b < 4294967296) (hc : c < 4294967296) :
    bits BinOp.xor .u32 (bits BinOp.xor .u32 (bits BinOp.and .u32 (a : Int) (b : Int)) (bits BinOp.and .u32 (a : Int) (c : Int))) (bits BinOp.and .u32 (b : Int) (c : Int)) = (maj a b c : Nat) := by
  rw [u32_and_nat _ _ ha hb, u32_and_nat _ _ ha hc, u32_and_nat _ _ hb hc, u32_xor_nat _ _ (and_lt hb) (and_lt hc), u32_xor_nat _ _ (xor_lt (and_lt hb) (and_lt hc)) (and_lt hc)]; rfl
theorem big1_val {x : Nat} (h : x < 4294967296) : bits BinOp.xor .u32 (bits BinOp.xor .u32 (rotr x 6 : Nat) (rotr x 11 : Nat)) (rotr x 25 : Nat) = (big1 x : Nat) := by
  rw [u32_xor_nat _ _ (rotr_lt h) (rotr_lt h), u32_xor_nat _ _ (xor_lt (rotr_lt h) (rotr_lt h)) (rotr_lt h)]; rfl
theorem big0_val {x : Nat} (h : x < 4294967296) : bits BinOp.xor .u32 (bits BinOp.xor .u32 (rotr x 2 : Nat) (rotr x 13 : Nat)) (rotr x 22 : Nat) = (big0 x : Nat) := by
  rw [u32_xor_nat _ _ (rotr_lt h) (rotr_lt h), u32_xor_nat _ _ (xor_lt (rotr_lt h) (rotr_lt h)) (rotr_lt h)]; rfl
theorem size8 : (Tryd.prog.info? 90).map (·.size) = some 8 := by kernel_rfl
theorem u32_eq {a b : Int} (h : a = b) : Value.int .u32 a = Value.int .u32 b := by rw [h]

set_option maxHeartbeats 2000000 in
set_option maxRecDepth 100000 in
theorem mix_any (s : St) (ws : List Nat) (w : World) (hs : s.ok) (hl : ws.length = 64) (hw : ∀ x ∈ ws, x < 4294967296) (ht : Tab w) :
    Calls Tryd.prog 41 #[.agg (u32s s.list).toArray, .agg (u32s ws).toArray] w fun e w' => e = .returned (.agg (u32s (mix s ws).list).toArray) ∧ Below w.heap.size w w' := by
  have Hl := hide hl
  clear hl
  have Hs := hide hs
  have Hw := hide hw
  have Ht := hide ht
  clear hs hw ht
  go_enter Tryd.func41, Tryd.ntmps41
  go_wp2
  obtain ⟨W, hW⟩ : ∃ W, W = ((w.alloc (Obj.cells (u32s s.list).toArray 90)).alloc (Obj.cells (u32s ws).toArray 74)).alloc (Obj.cells #[.int .u32 0, .int .u32 0, .int .u32 0, .int .u32 0, .int .u32 0, .int .u32 0, .int .u32 0, .int .u32 0] 90) := ⟨_, rfl⟩
  rw [← hW]
  have hm : Mx w s ws W := by
    subst hW
    have hb : Below w.heap.size w (((w.alloc (Obj.cells (u32s s.list).toArray 90)).alloc (Obj.cells (u32s ws).toArray 74)).alloc (Obj.cells #[.int .u32 0, .int .u32 0, .int .u32 0, .int .u32 0, .int .u32 0, .int .u32 0, .int .u32 0, .int .u32 0] 90)) :=
      (((Below.refl _ _).alloc (Nat.le_refl _) _).alloc (by simp) _).alloc (by simp; omega) _
    exact ⟨((Row.new w _ rfl rfl).alloc _).alloc _, (Row.new _ _ (by simp) rfl).alloc _, Row.new _ _ (by simp) rfl, by simp, hb, Ht.out.below hb⟩
  have Hm := hide hm
  have hc := fun i => hm.box.cell i
  have c0 : W.cell? ⟨w.heap.size, 0, none⟩ = some (.int .u32 s.a) := hc 0
  have c1 : W.cell? ⟨w.heap.size, 1, none⟩ = some (.int .u32 s.b) := hc 1
  have c2 : W.cell? ⟨w.heap.size, 2, none⟩ = some (.int .u32 s.c) := hc 2
  have c3 : W.cell? ⟨w.heap.size, 3, none⟩ = some (.int .u32 s.d) := hc 3
  have c4 : W.cell? ⟨w.heap.size, 4, none⟩ = some (.int .u32 s.e) := hc 4
  have c5 : W.cell? ⟨w.heap.size, 5, none⟩ = some (.int .u32 s.f) := hc 5
  have c6 : W.cell? ⟨w.heap.size, 6, none⟩ = some (.int .u32 s.g) := hc 6
  have c7 : W.cell? ⟨w.heap.size, 7, none⟩ = some (.int .u32 s.h) := hc 7
  clear hc hm hW
  go_quiet (fail)
  clear c0 c1 c2 c3 c4 c5 c6 c7
  go_wp2
  go_loopw [5, 6, 7, 8, 9, 10, 11, 12, 32] (fun a b c d e f g h i wr => ∃ k : Nat, k ≤ 64 ∧ i = .int .i64 k ∧ a = sl (rounds ws s k).a ∧ b = sl (rounds ws s k).b ∧ c = sl (rounds ws s k).c ∧ d = sl (rounds ws s k).d ∧ e = sl (rounds ws s k).e ∧ f = sl (rounds ws s k).f ∧ g = sl (rounds ws s k).g ∧ h = sl (rounds ws s k).h ∧ Mx w s ws wr) (fun _ _ _ _ _ _ _ _ i _ => 64 - (intOf i).toNat)
  case atStart => exact ⟨0, by omega, rfl, rfl, rfl, rfl, rfl, rfl, rfl, rfl, rfl, Hm.out.drewN _⟩
  case round =>
    obtain ⟨k, hk, rfl, rfl, rfl, rfl, rfl, rfl, rfl, rfl, rfl, hm⟩ := hrel
    unfold sl
    by_cases hlt : k < 64
    · have ho := rounds_ok ws Hs.out k
      have Hn : Hid (rounds ws s (k + 1) = (rounds ws s k).step (keys.getD k 0) (ws.getD k 0)) := rfl
      have t1 : wr.cell? ⟨1, k, none⟩ = some (.int .u32 (keys.getD k 0 : Nat)) := hm.tab k hlt
      have t2 : wr.cell? ⟨w.heap.size + 1, k, none⟩ = some (.int .u32 (ws.getD k 0 : Nat)) := by rw [hm.two.cell, u32s_get _ _ (by rw [Hl.out]; exact hlt)]
      have b1 := keys_lt k
      have b2 := getD_lt Hw.out k
      generalize keys.getD k 0 = kk at *
      generalize ws.getD k 0 = ww at *
      generalize rounds ws s k = r at *
      obtain ⟨a, b, c, d, e, f, g, h⟩ := r
      obtain ⟨oa, ob, oc, od, oe, of, og, oh⟩ := ho
      simp only at oa ob oc od oe of og oh
      go_wp2
      go_quiet ((go_at_call 50; exact Calls.quiet_of_same ((turn_any _ _ _ (by assumption) (by omega) (by omega)).mono (fun _ _ h => ⟨h.1, h.2.symm⟩))))
      go_wp2_with (go_at_call 50; refine (turn_any _ _ _ (by assumption) (by omega) (by omega)).mono ?_; rintro e w' ⟨rfl, rfl⟩)
      go_roundw
      case rel =>
        refine ⟨k + 1, by omega, by go_num, ?_⟩
        rw [Hn.out]
        rw [big1_val oe, big0_val oa, ch_val oe of og, maj_val oa ob oc]
        refine ⟨u32_eq ?_, rfl, rfl, rfl, u32_eq ?_, rfl, rfl, rfl, hm.drewN _⟩
        · simp only [St.step, tee, you]; omega
        · simp only [St.step, tee]; omega
      case measure => simp [intOf]; omega
    · obtain rfl : k = 64 := by omega
      have Hm := hide hm
      have hr := hide hm.res
      have hc := fun i => hm.box.cell i
      have c0 : wr.cell? ⟨w.heap.size, 0, none⟩ = some (.int .u32 s.a) := hc 0
      have c1 : wr.cell? ⟨w.heap.size, 1, none⟩ = some (.int .u32 s.b) := hc 1
      have c2 : wr.cell? ⟨w.heap.size, 2, none⟩ = some (.int .u32 s.c) := hc 2
      have c3 : wr.cell? ⟨w.heap.size, 3, none⟩ = some (.int .u32 s.d) := hc 3
      have c4 : wr.cell? ⟨w.heap.size, 4, none⟩ = some (.int .u32 s.e) := hc 4
      have c5 : wr.cell? ⟨w.heap.size, 5, none⟩ = some (.int .u32 s.f) := hc 5
      have c6 : wr.cell? ⟨w.heap.size, 6, none⟩ = some (.int .u32 s.g) := hc 6
      have c7 : wr.cell? ⟨w.heap.size, 7, none⟩ = some (.int .u32 s.h) := hc 7
      clear hc hm
      rw [show ((64 : Nat) : Int) = 64 from rfl]
      have Hv : Hid (mix s ws = s.more (rounds ws s 64)) := rfl
      generalize rounds ws s 64 = r at *
      have h8 := hide size8
      have hold : Hid ((u32s [0, 0, 0, 0, 0, 0, 0, 0]).toArray.size = 8) := by simp [Hid, u32s]
      go_wp2_with (refine wpList_store_row rfl 90 (.tmp 4) (.tmp 127) rfl (w.heap.size + 1 + 1) #[.int .u32 (((s.a : Int) + (r.a : Int)) % 4294967296), .int .u32 (((s.b : Int) + (r.b : Int)) % 4294967296), .int .u32 (((s.c : Int) + (r.c : Int)) % 4294967296), .int .u32 (((s.d : Int) + (r.d : Int)) % 4294967296), .int .u32 (((s.e : Int) + (r.e : Int)) % 4294967296), .int .u32 (((s.f : Int) + (r.f : Int)) % 4294967296), .int .u32 (((s.g : Int) + (r.g : Int)) % 4294967296), .int .u32 (((s.h : Int) + (r.h : Int)) % 4294967296)] ?hx ?hy 90 _ hr.out h8.out hold.out ?h1 ?_)
      case hx => simp [Act.eval]
      case hy => simp [Act.eval]
      case h1 => exact all_oneCell_toArray (by simp [Value.oneCell'])
      have hf := hr.out.all (u32s (mix s ws).list)
      have hq : Hid ((u32s (mix s ws).list).toArray = #[.int .u32 (((s.a : Int) + (r.a : Int)) % 4294967296), .int .u32 (((s.b : Int) + (r.b : Int)) % 4294967296), .int .u32 (((s.c : Int) + (r.c : Int)) % 4294967296), .int .u32 (((s.d : Int) + (r.d : Int)) % 4294967296), .int .u32 (((s.e : Int) + (r.e : Int)) % 4294967296), .int .u32 (((s.f : Int) + (r.f : Int)) % 4294967296), .int .u32 (((s.g : Int) + (r.g : Int)) % 4294967296), .int .u32 (((s.h : Int) + (r.h : Int)) % 4294967296)]) := by
        rw [Hv.out]
        simp [Hid, u32s, St.list, St.more]
      rw [← hq.out]
      have hz : Hid ((u32s (mix s ws).list).toArray.size = 8) := by simp [Hid, u32s, St.list]
      refine bodyPost_ret (results_cell_row rfl _ _ (w.heap.size + 1 + 1) 90 (u32s (mix s ws).list).toArray (0, 0) _ rfl hf Tryd.underlying90 rfl (size8.trans (by rw [hz.out]))) rfl ⟨rfl, below_all Hm.out.below (by omega) _⟩
end Go.Proofs.YtcmjdepjckhpdabDoor.Dg
