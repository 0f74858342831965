/-
  How a digest goes on when more bytes are written: on lists alone.
-/
import Derived.Test.YtoppmagelkfhoaaDoorSha
namespace Go.Proofs.YtoppmagelkfhoaaDoor.Sha
open Go Kt

theorem blocks_append (a b : List UInt8) : ∀ q, 64 * q ≤ a.length → blocks (a ++ b) q = blocks a q
  | 0, _ => rfl
  | q + 1, h => by
    simp only [blocks]
    rw [blocks_append a b q (by omega), List.drop_append_of_le_length (by omega), List.take_append_of_le_length (by rw [List.length_drop]; omega)]

theorem splice_len {α : Type} (L : List α) (k : Nat) (x : List α) (h : k + x.length ≤ L.length) : (splice L k x).length = L.length := length_splice L k x h

theorem tail_part {t x last : List UInt8} (hl : last.length = 64) (ht : last.take (t.length % 64) = t.drop (t.length / 64 * 64)) (hx : t.length % 64 + x.length < 64) :
    (splice last (t.length % 64) x).take ((t ++ x).length % 64) = (t ++ x).drop ((t ++ x).length / 64 * 64) ∧ state (t ++ x) = state t := by
  have e1 : (t ++ x).length / 64 = t.length / 64 := by rw [List.length_append]; omega
  have e2 : (t ++ x).length % 64 = t.length % 64 + x.length := by rw [List.length_append]; omega
  refine ⟨?_, ?_⟩
  · rw [e1, e2, List.drop_append_of_le_length (by omega), ← ht, splice, ← List.append_assoc, List.take_append_of_le_length (by simp; omega),
      List.take_of_length_le (by simp; omega)]
  · unfold state
    rw [e1, blocks_append t x _ (by omega)]

theorem tail_full {t x last : List UInt8} (hl : last.length = 64) (ht : last.take (t.length % 64) = t.drop (t.length / 64 * 64)) (hx : t.length % 64 + x.length = 64) :
    (t ++ x).length % 64 = 0 ∧ state (t ++ x) = mix (state t) (ext (splice last (t.length % 64) x) 64) := by
  have e1 : (t ++ x).length / 64 = t.length / 64 + 1 := by rw [List.length_append]; omega
  have e2 : (t ++ x).length % 64 = 0 := by rw [List.length_append]; omega
  refine ⟨e2, ?_⟩
  have e3 : splice last (t.length % 64) x = ((t ++ x).drop (64 * (t.length / 64))).take 64 := by
    have e4 : last.drop (t.length % 64 + x.length) = [] := List.drop_of_length_le (by omega)
    have e5 : (last.take (t.length % 64) ++ x).length ≤ 64 := by rw [List.length_append, List.length_take]; omega
    rw [show 64 * (t.length / 64) = t.length / 64 * 64 from by omega, List.drop_append_of_le_length (by omega), ← ht, splice, e4, List.append_nil, List.take_of_length_le e5]
  unfold state
  rw [e1, e3]
  simp only [blocks]
  rw [blocks_append t x _ (by omega)]

theorem splice_mid (A L M : List Value) (k o : Nat) (x : List Value) (hA : A.length = o) (h : k + x.length ≤ L.length) :
    splice (A ++ (L ++ M)) (o + k) x = A ++ (splice L k x ++ M) := by
  subst hA
  simp only [splice]
  rw [List.take_append, List.drop_append, List.take_of_length_le (by omega), List.drop_of_length_le (by omega), List.nil_append,
    show A.length + k - A.length = k from by omega, show A.length + k + x.length - A.length = k + x.length from by omega,
    List.take_append_of_le_length (by omega), List.drop_append_of_le_length (by omega)]
  simp
theorem splice_u8s (L x : List UInt8) (k : Nat) : splice (u8s L) k (u8s x) = u8s (splice L k x) := by
  simp [splice, u8s, List.map_take, List.map_drop]
theorem pad_sum (n : Nat) : (n + (pad n).length) % 64 = 0 := by
  simp [pad, bits8, zeros]; omega
end Go.Proofs.YtoppmagelkfhoaaDoor.Sha
