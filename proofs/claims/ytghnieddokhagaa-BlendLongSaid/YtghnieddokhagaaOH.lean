/-
  A row of bytes that is filled with one, and read as a text.
-/
import Derived.BigQuiet
import Derived.Test.YtghnieddokhagaaOG
import Derived.Test.YtghnieddokhagaaNJ
namespace Go.Proofs.Ytghnieddokhagaa.Tr
open Go Go.RowKit Kt Lw Li Lx Df Al

theorem infoB : (Try.prog.info? 5).map (fun i => (i.zero, i.size, i.bytes)) = some (some (.int .u8 0), 1, 1) := by kernel_rfl
set_option maxRecDepth 100000 in
theorem made_bytes (m : Nat) (hm : m ≤ 1000000) (w : World) : (Instr.makeSlice 32 (.int .i64 (m : Int)) (.int .i64 (m : Int))).run Try.prog w = .ok (.slice (some ⟨w.heap.size, 0, none⟩) m m) (w.alloc (.cells (u8s (List.replicate m 0)).toArray 5)) := by
  obtain ⟨i0, hi0, hz0, hz1, hz2⟩ := info_parts infoB
  have hC : madeCells (Value.int .u8 0).cells m = (u8s (List.replicate m 0)).toArray := by
    apply Array.ext
    · simp [madeCells, u8s, Value.cells]
    · intro i h1 h2
      simp [madeCells, u8s, Value.cells, Nat.mod_one]
  have hr := run_makeSlice (P := Try.prog) w 32 5 i0 (.int .u8 0) Try.underlying32 hi0 hz0 .i64 .i64 (m : Int) (m : Int) (by omega) (Int.le_refl _) (by rw [hz1]; simp; omega) (by rw [hz2]; omega) (by omega)
  rw [hz1, Int.toNat_natCast, Nat.mul_one, hC] at hr
  exact hr
set_option maxRecDepth 100000 in
theorem row_conv (x : Bs) (m g : Nat) (hm : x.length = m) (hl : m ≤ 1000000) (w : World) (hr : Row w g 5 (u8s x)) : (convert 32 9 (.slice (some ⟨g, 0, none⟩) m m)).run Try.prog w = .ok (.string ⟨x.toArray⟩) w := by
  subst hm
  have ho : Kt.Own w 0 5 (.slice (some ⟨g, 0, none⟩) x.length x.length) x :=
    ⟨by simp [u8s_len], .inr ⟨g, x.length, (u8s x).toArray, rfl, Nat.zero_le _, hr, Nat.le_refl _, by unfold maxLen; omega, by simp [u8s_len], by rw [Nat.mul_one]; exact List.take_of_length_le (by rw [u8s_len]; exact Nat.le_refl _)⟩⟩
  exact ho.text 32 9 5 Try.underlying32 Try.underlying5 Try.underlying9
/-- so much is filled -/
def fill (n k : Nat) (x : UInt8) : Bs := List.replicate k x ++ List.replicate (n - k) 0
theorem fill_zero (n : Nat) (x : UInt8) : fill n 0 x = List.replicate n 0 := by simp [fill]
theorem fill_all (n : Nat) (x : UInt8) : fill n n x = List.replicate n x := by simp [fill]
theorem fill_at {n k : Nat} (h : k < n) (x : UInt8) : (u8s (fill n k x))[k]? = some (.int .u8 0) := by
  unfold fill u8s
  rw [List.getElem?_map, List.getElem?_append_right (by simp)]
  simp only [List.length_replicate, Nat.sub_self]
  rw [show n - k = (n - k - 1) + 1 by omega, List.replicate_succ]
  rfl
theorem fill_set {n k : Nat} (h : k < n) (x : UInt8) : (u8s (fill n k x)).set k (.int .u8 (x.toNat : Int)) = u8s (fill n (k + 1) x) := by
  unfold fill u8s
  rw [← List.map_set (f := fun b : UInt8 => Value.int .u8 (b.toNat : Int)) (a := x)]
  congr 1
  rw [List.set_append_right _ _ (by simp)]
  simp only [List.length_replicate, Nat.sub_self]
  rw [show n - k = (n - (k + 1)) + 1 by omega, List.replicate_succ, List.set_cons_zero, List.replicate_succ']
  simp
end Go.Proofs.Ytghnieddokhagaa.Tr
