/-
  Numbers, and texts, one behind the other; a text's bytes as a slice.
-/
import Derived.Test.YtiomhbajbbpmiaaWP
import Derived.Test.YtiomhbajbbpmiaaWS
namespace Go.Proofs.Ytiomhbajbbpmiaa.Wr
open Go Go.RowKit Kt Lw

def putN (l : List Int) : List UInt8 := l.flatMap fun z => form z.toNat
def putT (m : List (List UInt8)) : List UInt8 := m.flatMap fun s => form s.length ++ s
theorem putN_take (l : List Int) (k : Nat) (h : k < l.length) : putN (l.take (k + 1)) = putN (l.take k) ++ form (l.getD k 0).toNat := by
  unfold putN
  rw [List.take_succ_eq_append_getElem h, List.flatMap_append, List.flatMap_cons, List.flatMap_nil, List.append_nil]
  simp [List.getElem?_eq_getElem h]
theorem putT_take (m : List (List UInt8)) (k : Nat) (h : k < m.length) : putT (m.take (k + 1)) = putT (m.take k) ++ (form (m.getD k []).length ++ m.getD k []) := by
  unfold putT
  rw [List.take_succ_eq_append_getElem h, List.flatMap_append, List.flatMap_cons, List.flatMap_nil, List.append_nil]
  simp [List.getElem?_eq_getElem h]
theorem putN_drop (l : List Int) (k : Nat) (h : k < l.length) : putN (l.drop k) = form (l.getD k 0).toNat ++ putN (l.drop (k + 1)) := by
  unfold putN
  rw [List.drop_eq_getElem_cons h, List.flatMap_cons]
  simp [List.getElem?_eq_getElem h]
theorem putT_drop (m : List (List UInt8)) (k : Nat) (h : k < m.length) : putT (m.drop k) = form (m.getD k []).length ++ (m.getD k [] ++ putT (m.drop (k + 1))) := by
  unfold putT
  rw [List.drop_eq_getElem_cons h, List.flatMap_cons]
  simp [List.getElem?_eq_getElem h]
theorem putN_len (l : List Int) (h : ∀ z ∈ l, z ≤ 18446744073709551615) : ∀ k, k ≤ l.length → (putN (l.take k)).length ≤ 10 * k
  | 0, _ => by simp [putN]
  | k + 1, hk => by
    have ih := putN_len l h k (by omega)
    have hz := h (l.getD k 0) (by rw [List.getD_eq_getElem?_getD, List.getElem?_eq_getElem (by omega)]; exact List.getElem_mem _)
    have := form_short (l.getD k 0).toNat 10 (by omega) (by omega)
    rw [putN_take l k (by omega), List.length_append]
    omega
theorem putT_len (m : List (List UInt8)) : ∀ k, k ≤ m.length → (∀ j, j < k → (m.getD j []).length ≤ 40) → (putT (m.take k)).length ≤ 50 * k
  | 0, _, _ => by simp [putT]
  | k + 1, hk, h => by
    have ih := putT_len m k (by omega) fun j hj => h j (by omega)
    have hz := h k (by omega)
    have := form_short (m.getD k []).length 10 (by omega) (by omega)
    rw [putT_take m k (by omega), List.length_append, List.length_append]
    omega

theorem conv_bytes (s : List UInt8) (w : World) : ∃ cap ob, (convert 9 22 (.string ⟨s.toArray⟩)).run Try.prog w = .ok (.slice (some ⟨w.heap.size, 0, none⟩) s.length cap) (w.drew.alloc ob) ∧ Sl (w.drew.alloc ob) (fun _ => True) (some ⟨w.heap.size, 0, none⟩) cap s := by
  refine ⟨_, _, run_bytes_of_string w 9 22 5 ⟨s.toArray⟩ Try.underlying9 Try.underlying22 Try.underlying5, ?_, fun hn => ⟨_, 0, rfl, trivial, fun j hj => ?_⟩⟩
  · have := grownCap_ge w (ByteArray.size ⟨s.toArray⟩) 0 5
    simpa [ByteArray.size] using this
  · rw [Nat.zero_add, cell_of_row _ w.heap.size j _ _ _ (heap_alloc_new w.drew _), bytesRow_at _ _ _ (by simpa using hj)]
    simp [List.getElem?_eq_getElem hj]
end Go.Proofs.Ytiomhbajbbpmiaa.Wr
