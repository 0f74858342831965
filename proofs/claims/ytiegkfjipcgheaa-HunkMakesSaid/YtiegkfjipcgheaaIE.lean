/-
  A slice of edits that came in, with the form's own reach.
-/
import Derived.Test.YtiegkfjipcgheaaEY
import Derived.Test.YtiegkfjipcgheaaEZ
namespace Go.Proofs.Ytiegkfjipcgheaa.Hu
open Go Go.RowKit Go.WideShapes Go.ChangeShapes Go.ChangeAt Go.ChangeMaps Go.Deep Kt Lw Df

section
variable {H : Type} {enc : TypeId × Value → H}
theorem all_weights {P : Program} {e : TypeId} {m : Nat} {d : DataW H} : ∀ (l : List (DataW H)), d ∈ l → m ∈ DataW.weights P e d → m ∈ DataW.weightsAll P e l
  | [], h, _ => by cases h
  | a :: l, h, hm => by
    rw [DataW.weightsAll, List.mem_append]
    rcases List.mem_cons.1 h with rfl | h
    · exact .inl hm
    · exact .inr (all_weights l h hm)
theorem open_editsS {W : World} {base : Nat} {v : Value} {d : DataW H} {ps : List MemPlace} {ts : List TypeId} {ds : List (DataW H)} (hz : (DataW.weightsEach Try.prog ts ds).all (· ≤ reachBytes) = true) (j0 : Nat) (hj0 : ts[j0]? = some 25) (hd : ds[j0]? = some d)
    (hval : Value.okWide Try.prog W .any base 25 v) (h : DataW.Trod enc Try.prog W 0 (fun _ => true) true 25 v d ps) :
    ∃ (L : List Ed) (A : Option Addr) (c : Nat), v = .slice A L.length c ∧ Es W A c L ∧ (∀ e ∈ L, ∀ x ∈ e.ins, x.length ≤ 140737488351232) ∧ L.length ≤ maxLen := by
  obtain ⟨a1, len, cap, rfl⟩ := okWide_slice Try.underlying25 hval
  obtain ⟨fuel, hf⟩ := h
  rcases open_slice Try.underlying25 hf with ⟨hcs, _⟩ | ⟨a, len', cap', m, n, D, Pl, hcs, _, hl, hm, hmm, hxx, hi⟩
  · simp [Value.cells] at hcs
    obtain ⟨rfl, rfl, rfl⟩ := hcs
    exact ⟨[], none, 0, rfl, Es.nil _ _ _, (fun e he => by cases he), Nat.zero_le _⟩
  · simp [Value.cells] at hcs
    obtain ⟨rfl, rfl, rfl⟩ := hcs
    simp only [if_true] at hmm
    subst hmm
    have hC : Try.prog.cellsOf 51 = 3 := by kernel_rfl
    have cI : Try.prog.cellsOf 3 = 1 := by kernel_rfl
    have cS : Try.prog.cellsOf 22 = 1 := by kernel_rfl
    have cT : Try.prog.cellsOf 9 = 1 := by kernel_rfl
    rw [hC] at hi
    have hel : ∀ i, i < len → ∃ e : Ed, ∃ A' c', (∀ k u, (edC e (.slice A' e.ins.length c'))[k]? = some u → W.cell? ((a.add (i * 3)).add k) = some u) ∧ Vs W (fun b => b < W.heap.size) A' c' (texts e.ins) ∧ ∀ x ∈ e.ins, x.length ≤ 140737488351232 := by
      intro i hil
      obtain ⟨cs', hc, ht⟩ := hi i (by omega)
      obtain ⟨_, hcl, hat⟩ := World.cells?_some hc
      obtain ⟨y0, y1, y2, n', hDi, _, h0, h1, h2⟩ := trod_struct3 Try.underlying51 ht
      simp only [cI, cS] at h0 h1 h2
      obtain ⟨p, e0, _, _⟩ := DataW.trod_int Try.underlying3 h0
      obtain ⟨dl, e1, _, _⟩ := DataW.trod_int Try.underlying3 h1
      have k0 := one_at _ _ _ e0
      have k1 := one_at _ _ _ e1
      have key : ∀ (l : Ls) (A' : Option Addr) (c' : Nat), cs'[2]? = some (.slice A' l.length c') → ∀ k u, (edC ⟨p, dl, l⟩ (.slice A' l.length c'))[k]? = some u → W.cell? ((a.add (i * 3)).add k) = some u := by
        intro l A' c' k2 k u hk
        have hk3 : k < 3 := (List.getElem?_eq_some_iff.1 hk).1
        rw [hat k hk3]
        rcases k with _ | _ | _ | k
        · rw [k0, ← hk]; rfl
        · rw [k1, ← hk]; rfl
        · rw [k2, ← hk]; rfl
        · omega
      rcases open_strings Try.underlying22 Try.underlying9 cT h2 with ⟨e2, _⟩ | ⟨a2, l2, c2, zs, e2, _, hl2, hm2, hz2, hy2, hcell2, _⟩
      · exact ⟨⟨p, dl, []⟩, none, 0, key [] none 0 (one_at _ _ _ e2), ⟨Nat.le_refl _, fun h => by simp [texts] at h⟩, fun x hx => by cases hx⟩
      · simp only [if_true] at hz2
        have hlen : ((zs.take l2).map fun s => s.data.toList).length = l2 := by rw [List.length_map, List.length_take]; omega
        refine ⟨⟨p, dl, (zs.take l2).map fun s => s.data.toList⟩, some a2, c2, key _ _ _ (by rw [hlen]; exact one_at _ _ _ e2), ⟨by rw [texts_len, hlen]; exact hl2, fun hn => ?_⟩, fun x hx => ?_⟩
        rotate_left
        · obtain ⟨s, hs, rfl⟩ := List.mem_map.1 hx
          injection hxx with hx1 hx2
          injection hDi with hD1 hD2
          have hw2 : s.data.toList.length ∈ DataW.weights Try.prog 22 y2.1 := by
            rw [hy2, DataW.weights, Try.underlying22]
            exact List.mem_cons.2 (.inr (List.mem_append.2 (.inl (strs_weights _ _ s hs))))
          have hw3 : s.data.toList.length ∈ DataW.weights Try.prog 51 (D i) := by
            rw [hD1, DataW.weights, Try.underlying51]
            exact DataW.weights_mem_each (j := 2) rfl rfl _ hw2
          have hw4 : s.data.toList.length ∈ DataW.weightsEach Try.prog ts ds := DataW.weights_mem_each hj0 hd _ (by
            rw [hx1, DataW.weights, Try.underlying25]
            exact List.mem_cons.2 (.inr (List.mem_append.2 (.inl (all_weights _ (List.mem_map.2 ⟨i, List.mem_range.2 (by omega), rfl⟩) hw3)))))
          have := List.all_eq_true.1 hz _ hw4
          rw [reach_eq] at this
          simpa using this
        rw [texts_len, hlen] at hn
        obtain ⟨ab, ao, spot⟩ := a2
        have hspot : spot = none := by simpa [Addr.add] using World.cell?_spot (hcell2 0 (by omega))
        subst hspot
        have hcj : ∀ j, j < l2 → W.cell? ⟨ab, ao + j, none⟩ = some (.string (zs.getD j ByteArray.empty)) := fun j hj => by
          have := hcell2 j (by omega)
          rwa [Addr.add_mid] at this
        refine ⟨ab, ao, rfl, World.block_lt_of_cell? W ⟨ab, ao + 0, none⟩ (hcj 0 hn), fun j u hj => ?_⟩
        have hjl : j < l2 := by have := (List.getElem?_eq_some_iff.1 hj).1; rw [texts_len, hlen] at this; exact this
        rw [hcj j hjl, ← hj, texts_at _ _ (by rw [hlen]; exact hjl)]
        simp [List.getD_eq_getElem?_getD, hjl, List.getElem?_eq_getElem (show j < zs.length by omega)]
    obtain ⟨L, hLl, hQ⟩ := list_of _ len hel
    refine ⟨L, some a, m, by rw [hLl], ⟨by omega, fun hn => ?_⟩, fun e he => ?_, by omega⟩
    rotate_left
    · obtain ⟨j, hjl, hje⟩ := List.getElem_of_mem he
      obtain ⟨_, _, _, _, h3⟩ := hQ j e (by rw [List.getElem?_eq_getElem hjl, hje])
      exact h3
    obtain ⟨ab, ao, spot⟩ := a
    obtain ⟨e0, A0, c0, hc0, _, _⟩ := hel 0 (by omega)
    have hspot : spot = none := by simpa [Addr.add] using World.cell?_spot (hc0 0 _ rfl)
    subst hspot
    have hlt : ab < W.heap.size := by
      have := hc0 0 _ rfl
      rw [Addr.add_mid, Addr.add_mid] at this
      exact World.block_lt_of_cell? W _ this
    refine ⟨ab, ao, rfl, hlt, fun j e hj => ?_⟩
    obtain ⟨A', c', h1, h2, _⟩ := hQ j e hj
    refine ⟨A', c', fun k u hk => ?_, h2⟩
    have := h1 k u hk
    rw [Addr.add_mid, Addr.add_mid] at this
    rw [Nat.mul_comm 3 j]
    exact this
end
end Go.Proofs.Ytiegkfjipcgheaa.Hu
