/-
  Texts, and slices of texts, that came in, with the form's own reach.
-/
import Derived.Test.YtofccahgmkifjaaQ3
import Derived.SizedLaws
namespace Go.Proofs.Ytofccahgmkifjaa.Lw
open Go Go.RowKit Go.WideShapes Go.ChangeShapes Go.ChangeAt Go.ChangeMaps Kt

section
variable {H : Type} {enc : TypeId × Value → H} {P : Program}
theorem reach_eq : reachBytes = 140737488351232 := by decide
set_option maxRecDepth 100000 in
theorem open_textS {t : TypeId} {W : World} {base : Nat} {v : Value} {d : DataW H} {ps : List MemPlace} {ts : List TypeId} {ds : List (DataW H)} (hz : (DataW.weightsEach P ts ds).all (· ≤ reachBytes) = true) (j : Nat) (hj : ts[j]? = some t) (hd : ds[j]? = some d)
    (ht : P.underlying t = some .string) (hval : Value.okWide P W .any base t v) (h : DataW.Trod enc P W 0 (fun _ => true) true t v d ps) : ∃ l : List UInt8, v = .string ⟨l.toArray⟩ ∧ l.length ≤ 140737488351232 := by
  obtain ⟨s, rfl, rfl, _, _⟩ := open_string ht hval h
  refine ⟨s.data.toList, by simp, ?_⟩
  have := sized_string hz hj hd
  rwa [reach_eq] at this
theorem strs_weights (e : TypeId) : ∀ (l : List ByteArray) (s : ByteArray), s ∈ l → s.data.toList.length ∈ DataW.weightsAll P e (strs l : List (DataW H))
  | [], s, h => by cases h
  | a :: l, s, h => by
    rw [strs, List.map_cons, DataW.weightsAll, List.mem_append]
    rcases List.mem_cons.1 h with rfl | h
    · left
      rw [DataW.weights]
      exact List.mem_singleton.2 rfl
    · right
      exact strs_weights e l s h
set_option maxRecDepth 100000 in
theorem open_textsS {t e : TypeId} {W : World} {base : Nat} {v : Value} {d : DataW H} {ps : List MemPlace} {ts : List TypeId} {ds : List (DataW H)} (hz : (DataW.weightsEach P ts ds).all (· ≤ reachBytes) = true) (j : Nat) (hj : ts[j]? = some t) (hd : ds[j]? = some d)
    (ht : P.underlying t = some (.slice e)) (he : P.underlying e = some .string) (hc : P.cellsOf e = 1)
    (hval : Value.okWide P W .any base t v) (h : DataW.Trod enc P W 0 (fun _ => true) true t v d ps) :
    ∃ (l : List (List UInt8)) (A : Option Addr) (c : Nat), v = .slice A l.length c ∧ Vs W (fun _ => True) A c (texts l) ∧ (∀ s ∈ l, s.length ≤ 140737488351232) ∧ l.length ≤ maxLen := by
  obtain ⟨a1, len, cap, rfl⟩ := okWide_slice ht hval
  obtain ⟨fuel, hf⟩ := h
  rcases open_strings ht he hc hf with ⟨hcs, hx⟩ | ⟨a, len', cap', zs, hcs, _, hl, hm, hzs, hx, hcell, hwz⟩
  · simp [Value.cells] at hcs
    obtain ⟨rfl, rfl, rfl⟩ := hcs
    exact ⟨[], none, 0, rfl, ⟨Nat.zero_le _, fun h => by simp [texts] at h⟩, fun z hz => (by cases hz), Nat.zero_le _⟩
  · simp [Value.cells] at hcs
    obtain ⟨rfl, rfl, rfl⟩ := hcs
    simp only [if_true] at hzs
    have hlen : ((zs.take len).map fun s => s.data.toList).length = len := by rw [List.length_map, List.length_take]; omega
    refine ⟨(zs.take len).map fun s => s.data.toList, some a, cap, by rw [hlen], ⟨by rw [texts_len, hlen]; exact hl, fun hn => ?_⟩, fun z hzm => ?_, by rw [hlen]; omega⟩
    · rw [texts_len, hlen] at hn
      obtain ⟨ab, ao, spot⟩ := a
      have hspot : spot = none := by simpa [Addr.add] using World.cell?_spot (hcell 0 (by omega))
      subst hspot
      refine ⟨ab, ao, rfl, trivial, fun k v hk => ?_⟩
      have hkl : k < len := by have := (List.getElem?_eq_some_iff.1 hk).1; rw [texts_len, hlen] at this; exact this
      have hck := hcell k (by omega)
      rw [Addr.add_mid] at hck
      rw [hck, ← hk, texts_at _ _ (by rw [hlen]; exact hkl)]
      simp [List.getD_eq_getElem?_getD, hkl, List.getElem?_eq_getElem (show k < zs.length by omega)]
    · obtain ⟨s, hs, rfl⟩ := List.mem_map.1 hzm
      injection hx with hx1 hx2
      rw [hx1] at hd
      have hw : s.data.toList.length ∈ DataW.weightsEach P ts ds := DataW.weights_mem_each hj hd _ (by
        rw [DataW.weights, ht]
        exact List.mem_cons.2 (.inr (List.mem_append.2 (.inl (strs_weights e _ s hs)))))
      have := List.all_eq_true.1 hz _ hw
      rw [reach_eq] at this
      simpa using this
end
end Go.Proofs.Ytofccahgmkifjaa.Lw
