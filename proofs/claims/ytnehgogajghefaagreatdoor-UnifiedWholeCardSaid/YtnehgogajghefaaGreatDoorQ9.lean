/-
  The reference's Few and Right.
-/
import Derived.Test.YtnehgogajghefaaGreatDoorENs
import Derived.Test.YtnehgogajghefaaGreatDoorQ3
import Derived.Deep.Slices
import Derived.Deep.Fields
import Derived.Deep.Strs
import Derived.Test.YtnehgogajghefaaGreatDoorQ2
import Derived.SizedLaws
import Derived.Test.YtnehgogajghefaaGreatDoorHN
import Derived.Test.YtnehgogajghefaaGreatDoorHP
import Derived.Test.YtnehgogajghefaaGreatDoorQ8
import Derived.Test.YtnehgogajghefaaGreatDoorIF
namespace Go.Proofs.YtnehgogajghefaaGreatDoor.Df
open Go Go.RowKit Kt Lw Li

def fewE (e : Ed) : Bool := decide (e.pos ≤ 1048576) && decide (e.del ≤ 1048576) && decide (e.ins.length ≤ 20)
def fewL (L : List Ed) : Bool := L.all fewE && decide (L.length ≤ 20)
theorem fewL_spec {L : List Ed} (h : fewL L = true) : (∀ e ∈ L, e.pos ≤ 1048576 ∧ e.del ≤ 1048576 ∧ e.ins.length ≤ 20) ∧ L.length ≤ 20 := by
  unfold fewL at h
  simp only [Bool.and_eq_true, decide_eq_true_eq, List.all_eq_true] at h
  refine ⟨fun e he => ?_, h.2⟩
  have := h.1 e he
  simp only [fewE, Bool.and_eq_true, decide_eq_true_eq] at this
  exact ⟨this.1.1, this.1.2, this.2⟩
end Go.Proofs.YtnehgogajghefaaGreatDoor.Df
namespace Go.Proofs.YtnehgogajghefaaGreatDoor.Df
open Go Go.RowKit Go.WideShapes Go.ChangeShapes Go.ChangeAt Go.ChangeMaps Go.Deep Kt Lw

theorem list_of {α : Type} (Q : Nat → α → Prop) : ∀ n : Nat, (∀ i, i < n → ∃ a, Q i a) → ∃ L : List α, L.length = n ∧ ∀ j a, L[j]? = some a → Q j a
  | 0, _ => ⟨[], rfl, fun j a h => by simp at h⟩
  | n + 1, h => by
    obtain ⟨L, hl, hq⟩ := list_of Q n fun i hi => h i (by omega)
    obtain ⟨a, ha⟩ := h n (by omega)
    refine ⟨L ++ [a], by simp [hl], fun j b hj => ?_⟩
    rcases Nat.lt_or_ge j n with hlt | hge
    · rw [List.getElem?_append_left (by omega)] at hj
      exact hq j b hj
    · have hjl := (List.getElem?_eq_some_iff.1 hj).1
      simp [hl] at hjl
      obtain rfl : j = n := by omega
      rw [List.getElem?_append_right (by omega), hl, Nat.sub_self] at hj
      simp at hj
      rw [← hj]; exact ha
section
variable {H : Type} {enc : TypeId × Value → H}
theorem one_at (cs : List Value) (j : Nat) (v : Value) (h : (cs.drop j).take 1 = [v]) : cs[j]? = some v := by
  have h0 : ((cs.drop j).take 1)[0]? = some v := by rw [h]; rfl
  rw [List.getElem?_take, if_pos (by omega), List.getElem?_drop, Nat.add_zero] at h0
  exact h0
set_option maxRecDepth 100000 in
theorem open_edits {W : World} {base : Nat} {v : Value} {d : DataW H} {ps : List MemPlace}
    (hval : Value.okWide Tryz.prog W .any base 25 v) (h : DataW.Trod enc Tryz.prog W 0 (fun _ => true) true 25 v d ps) :
    ∃ (L : List Ed) (A : Option Addr) (c : Nat), v = .slice A L.length c ∧ Es W A c L ∧ L.length ≤ maxLen := by
  obtain ⟨a1, len, cap, rfl⟩ := okWide_slice Tryz.underlying25 hval
  obtain ⟨fuel, hf⟩ := h
  rcases open_slice Tryz.underlying25 hf with ⟨hcs, _⟩ | ⟨a, len', cap', m, n, D, Pl, hcs, _, hl, hm, hmm, _, hi⟩
  · simp [Value.cells] at hcs
    obtain ⟨rfl, rfl, rfl⟩ := hcs
    exact ⟨[], none, 0, rfl, Es.nil _ _ _, Nat.zero_le _⟩
  · simp [Value.cells] at hcs
    obtain ⟨rfl, rfl, rfl⟩ := hcs
    simp only [if_true] at hmm
    subst hmm
    have hC : Tryz.prog.cellsOf 72 = 3 := by kernel_rfl
    have cI : Tryz.prog.cellsOf 3 = 1 := by kernel_rfl
    have cS : Tryz.prog.cellsOf 23 = 1 := by kernel_rfl
    have cT : Tryz.prog.cellsOf 9 = 1 := by kernel_rfl
    rw [hC] at hi
    have hel : ∀ i, i < len → ∃ e : Ed, ∃ A' c', (∀ k u, (edC e (.slice A' e.ins.length c'))[k]? = some u → W.cell? ((a.add (i * 3)).add k) = some u) ∧ Vs W (fun b => b < W.heap.size) A' c' (texts e.ins) := by
      intro i hil
      obtain ⟨cs', hc, ht⟩ := hi i (by omega)
      obtain ⟨_, hcl, hat⟩ := World.cells?_some hc
      obtain ⟨y0, y1, y2, n', _, _, h0, h1, h2⟩ := trod_struct3 Tryz.underlying72 ht
      simp only [cI, cS] at h0 h1 h2
      obtain ⟨p, e0, _, _⟩ := DataW.trod_int Tryz.underlying3 h0
      obtain ⟨dl, e1, _, _⟩ := DataW.trod_int Tryz.underlying3 h1
      have k0 := one_at _ _ _ e0
      have k1 := one_at _ _ _ e1
      have key : ∀ (l : Ls) (A' : Option Addr) (c' : Nat), cs'[2]? = some (.slice A' l.length c') → ∀ k u, (edC ⟨p, dl, l⟩ (.slice A' l.length c'))[k]? = some u → W.cell? ((a.add (i * 3)).add k) = some u := by
        intro l A' c' k2 k u hk
        have hk3 : k < 3 := (List.getElem?_eq_some_iff.1 hk).1
        rw [hat k hk3]
        rcases k with _ | _ | _ | k
        · rw [k0, ← hk]; rfl
        · rw [k1, ← hk]; rfl
        · rw [k2, ← hk]; rfl
        · omega
      rcases open_strings Tryz.underlying23 Tryz.underlying9 cT h2 with ⟨e2, _⟩ | ⟨a2, l2, c2, zs, e2, _, hl2, hm2, hz2, _, hcell2, _⟩
      · exact ⟨⟨p, dl, []⟩, none, 0, key [] none 0 (one_at _ _ _ e2), Nat.le_refl _, fun h => by simp [texts] at h⟩
      · simp only [if_true] at hz2
        have hlen : ((zs.take l2).map fun s => s.data.toList).length = l2 := by rw [List.length_map, List.length_take]; omega
        refine ⟨⟨p, dl, (zs.take l2).map fun s => s.data.toList⟩, some a2, c2, key _ _ _ (by rw [hlen]; exact one_at _ _ _ e2), by rw [texts_len, hlen]; exact hl2, fun hn => ?_⟩
        rw [texts_len, hlen] at hn
        obtain ⟨ab, ao, spot⟩ := a2
        have hspot : spot = none := by simpa [Addr.add] using World.cell?_spot (hcell2 0 (by omega))
        subst hspot
        have hcj : ∀ j, j < l2 → W.cell? ⟨ab, ao + j, none⟩ = some (.string (zs.getD j ByteArray.empty)) := fun j hj => by
          have := hcell2 j (by omega)
          rwa [Addr.add_mid] at this
        refine ⟨ab, ao, rfl, World.block_lt_of_cell? W ⟨ab, ao + 0, none⟩ (hcj 0 hn), fun j u hj => ?_⟩
        have hjl : j < l2 := by have := (List.getElem?_eq_some_iff.1 hj).1; rw [texts_len, hlen] at this; exact this
        rw [hcj j hjl, ← hj, texts_at _ _ (by rw [hlen]; exact hjl)]
        simp [List.getD_eq_getElem?_getD, hjl, List.getElem?_eq_getElem (show j < zs.length by omega)]
    obtain ⟨L, hLl, hQ⟩ := list_of _ len hel
    refine ⟨L, some a, m, by rw [hLl], ⟨by omega, fun hn => ?_⟩, by omega⟩
    obtain ⟨ab, ao, spot⟩ := a
    obtain ⟨e0, A0, c0, hc0, _⟩ := hel 0 (by omega)
    have hspot : spot = none := by simpa [Addr.add] using World.cell?_spot (hc0 0 _ rfl)
    subst hspot
    have hlt : ab < W.heap.size := by
      have := hc0 0 _ rfl
      rw [Addr.add_mid, Addr.add_mid] at this
      exact World.block_lt_of_cell? W _ this
    refine ⟨ab, ao, rfl, hlt, fun j e hj => ?_⟩
    obtain ⟨A', c', h1, h2⟩ := hQ j e hj
    refine ⟨A', c', fun k u hk => ?_, h2⟩
    have := h1 k u hk
    rw [Addr.add_mid, Addr.add_mid] at this
    rw [Nat.mul_comm 3 j]
    exact this
end
end Go.Proofs.YtnehgogajghefaaGreatDoor.Df
namespace Go.Proofs.YtnehgogajghefaaGreatDoor.Lw
open Go Go.RowKit Go.WideShapes Go.ChangeShapes Go.ChangeAt Go.ChangeMaps Kt

section
variable {H : Type} {enc : TypeId × Value → H} {P : Program}
theorem reach_eq : reachBytes = 140737488351232 := by decide
set_option maxRecDepth 100000 in
theorem open_textS {t : TypeId} {W : World} {base : Nat} {v : Value} {d : DataW H} {ps : List MemPlace} {ts : List TypeId} {ds : List (DataW H)} (hz : (DataW.weightsEach P ts ds).all (· ≤ reachBytes) = true) (j : Nat) (hj : ts[j]? = some t) (hd : ds[j]? = some d)
    (ht : P.underlying t = some .string) (hval : Value.okWide P W .any base t v) (h : DataW.Trod enc P W 0 (fun _ => true) true t v d ps) : ∃ l : List UInt8, v = .string ⟨l.toArray⟩ ∧ l.length ≤ 140737488351232 := by
  obtain ⟨s, rfl, rfl, _, _⟩ := open_string ht hval h
  refine ⟨s.data.toList, by simp, ?_⟩
  have := sized_string hz hj hd
  rwa [reach_eq] at this
theorem strs_weights (e : TypeId) : ∀ (l : List ByteArray) (s : ByteArray), s ∈ l → s.data.toList.length ∈ DataW.weightsAll P e (strs l : List (DataW H))
  | [], s, h => by cases h
  | a :: l, s, h => by
    rw [strs, List.map_cons, DataW.weightsAll, List.mem_append]
    rcases List.mem_cons.1 h with rfl | h
    · left
      rw [DataW.weights]
      exact List.mem_singleton.2 rfl
    · right
      exact strs_weights e l s h
set_option maxRecDepth 100000 in
theorem open_textsS {t e : TypeId} {W : World} {base : Nat} {v : Value} {d : DataW H} {ps : List MemPlace} {ts : List TypeId} {ds : List (DataW H)} (hz : (DataW.weightsEach P ts ds).all (· ≤ reachBytes) = true) (j : Nat) (hj : ts[j]? = some t) (hd : ds[j]? = some d)
    (ht : P.underlying t = some (.slice e)) (he : P.underlying e = some .string) (hc : P.cellsOf e = 1)
    (hval : Value.okWide P W .any base t v) (h : DataW.Trod enc P W 0 (fun _ => true) true t v d ps) :
    ∃ (l : List (List UInt8)) (A : Option Addr) (c : Nat), v = .slice A l.length c ∧ Vs W (fun _ => True) A c (texts l) ∧ (∀ s ∈ l, s.length ≤ 140737488351232) ∧ l.length ≤ maxLen := by
  obtain ⟨a1, len, cap, rfl⟩ := okWide_slice ht hval
  obtain ⟨fuel, hf⟩ := h
  rcases open_strings ht he hc hf with ⟨hcs, hx⟩ | ⟨a, len', cap', zs, hcs, _, hl, hm, hzs, hx, hcell, hwz⟩
  · simp [Value.cells] at hcs
    obtain ⟨rfl, rfl, rfl⟩ := hcs
    exact ⟨[], none, 0, rfl, ⟨Nat.zero_le _, fun h => by simp [texts] at h⟩, fun z hz => (by cases hz), Nat.zero_le _⟩
  · simp [Value.cells] at hcs
    obtain ⟨rfl, rfl, rfl⟩ := hcs
    simp only [if_true] at hzs
    have hlen : ((zs.take len).map fun s => s.data.toList).length = len := by rw [List.length_map, List.length_take]; omega
    refine ⟨(zs.take len).map fun s => s.data.toList, some a, cap, by rw [hlen], ⟨by rw [texts_len, hlen]; exact hl, fun hn => ?_⟩, fun z hzm => ?_, by rw [hlen]; omega⟩
    · rw [texts_len, hlen] at hn
      obtain ⟨ab, ao, spot⟩ := a
      have hspot : spot = none := by simpa [Addr.add] using World.cell?_spot (hcell 0 (by omega))
      subst hspot
      refine ⟨ab, ao, rfl, trivial, fun k v hk => ?_⟩
      have hkl : k < len := by have := (List.getElem?_eq_some_iff.1 hk).1; rw [texts_len, hlen] at this; exact this
      have hck := hcell k (by omega)
      rw [Addr.add_mid] at hck
      rw [hck, ← hk, texts_at _ _ (by rw [hlen]; exact hkl)]
      simp [List.getD_eq_getElem?_getD, hkl, List.getElem?_eq_getElem (show k < zs.length by omega)]
    · obtain ⟨s, hs, rfl⟩ := List.mem_map.1 hzm
      injection hx with hx1 hx2
      rw [hx1] at hd
      have hw : s.data.toList.length ∈ DataW.weightsEach P ts ds := DataW.weights_mem_each hj hd _ (by
        rw [DataW.weights, ht]
        exact List.mem_cons.2 (.inr (List.mem_append.2 (.inl (strs_weights e _ s hs)))))
      have := List.all_eq_true.1 hz _ hw
      rw [reach_eq] at this
      simpa using this
end
end Go.Proofs.YtnehgogajghefaaGreatDoor.Lw
namespace Go.Proofs.YtnehgogajghefaaGreatDoor.Hu
open Go Go.RowKit Go.WideShapes Go.ChangeShapes Go.ChangeAt Go.ChangeMaps Go.Deep Kt Lw Df

section
variable {H : Type} {enc : TypeId × Value → H}
theorem all_weights {P : Program} {e : TypeId} {m : Nat} {d : DataW H} : ∀ (l : List (DataW H)), d ∈ l → m ∈ DataW.weights P e d → m ∈ DataW.weightsAll P e l
  | [], h, _ => by cases h
  | a :: l, h, hm => by
    rw [DataW.weightsAll, List.mem_append]
    rcases List.mem_cons.1 h with rfl | h
    · exact .inl hm
    · exact .inr (all_weights l h hm)
set_option maxRecDepth 100000 in
theorem open_editsS {W : World} {base : Nat} {v : Value} {d : DataW H} {ps : List MemPlace} {ts : List TypeId} {ds : List (DataW H)} (hz : (DataW.weightsEach Tryz.prog ts ds).all (· ≤ reachBytes) = true) (j0 : Nat) (hj0 : ts[j0]? = some 25) (hd : ds[j0]? = some d)
    (hval : Value.okWide Tryz.prog W .any base 25 v) (h : DataW.Trod enc Tryz.prog W 0 (fun _ => true) true 25 v d ps) :
    ∃ (L : List Ed) (A : Option Addr) (c : Nat), v = .slice A L.length c ∧ Es W A c L ∧ (∀ e ∈ L, ∀ x ∈ e.ins, x.length ≤ 140737488351232) ∧ L.length ≤ maxLen := by
  obtain ⟨a1, len, cap, rfl⟩ := okWide_slice Tryz.underlying25 hval
  obtain ⟨fuel, hf⟩ := h
  rcases open_slice Tryz.underlying25 hf with ⟨hcs, _⟩ | ⟨a, len', cap', m, n, D, Pl, hcs, _, hl, hm, hmm, hxx, hi⟩
  · simp [Value.cells] at hcs
    obtain ⟨rfl, rfl, rfl⟩ := hcs
    exact ⟨[], none, 0, rfl, Es.nil _ _ _, (fun e he => by cases he), Nat.zero_le _⟩
  · simp [Value.cells] at hcs
    obtain ⟨rfl, rfl, rfl⟩ := hcs
    simp only [if_true] at hmm
    subst hmm
    have hC : Tryz.prog.cellsOf 72 = 3 := by kernel_rfl
    have cI : Tryz.prog.cellsOf 3 = 1 := by kernel_rfl
    have cS : Tryz.prog.cellsOf 23 = 1 := by kernel_rfl
    have cT : Tryz.prog.cellsOf 9 = 1 := by kernel_rfl
    rw [hC] at hi
    have hel : ∀ i, i < len → ∃ e : Ed, ∃ A' c', (∀ k u, (edC e (.slice A' e.ins.length c'))[k]? = some u → W.cell? ((a.add (i * 3)).add k) = some u) ∧ Vs W (fun b => b < W.heap.size) A' c' (texts e.ins) ∧ ∀ x ∈ e.ins, x.length ≤ 140737488351232 := by
      intro i hil
      obtain ⟨cs', hc, ht⟩ := hi i (by omega)
      obtain ⟨_, hcl, hat⟩ := World.cells?_some hc
      obtain ⟨y0, y1, y2, n', hDi, _, h0, h1, h2⟩ := trod_struct3 Tryz.underlying72 ht
      simp only [cI, cS] at h0 h1 h2
      obtain ⟨p, e0, _, _⟩ := DataW.trod_int Tryz.underlying3 h0
      obtain ⟨dl, e1, _, _⟩ := DataW.trod_int Tryz.underlying3 h1
      have k0 := one_at _ _ _ e0
      have k1 := one_at _ _ _ e1
      have key : ∀ (l : Ls) (A' : Option Addr) (c' : Nat), cs'[2]? = some (.slice A' l.length c') → ∀ k u, (edC ⟨p, dl, l⟩ (.slice A' l.length c'))[k]? = some u → W.cell? ((a.add (i * 3)).add k) = some u := by
        intro l A' c' k2 k u hk
        have hk3 : k < 3 := (List.getElem?_eq_some_iff.1 hk).1
        rw [hat k hk3]
        rcases k with _ | _ | _ | k
        · rw [k0, ← hk]; rfl
        · rw [k1, ← hk]; rfl
        · rw [k2, ← hk]; rfl
        · omega
      rcases open_strings Tryz.underlying23 Tryz.underlying9 cT h2 with ⟨e2, _⟩ | ⟨a2, l2, c2, zs, e2, _, hl2, hm2, hz2, hy2, hcell2, _⟩
      · exact ⟨⟨p, dl, []⟩, none, 0, key [] none 0 (one_at _ _ _ e2), ⟨Nat.le_refl _, fun h => by simp [texts] at h⟩, fun x hx => by cases hx⟩
      · simp only [if_true] at hz2
        have hlen : ((zs.take l2).map fun s => s.data.toList).length = l2 := by rw [List.length_map, List.length_take]; omega
        refine ⟨⟨p, dl, (zs.take l2).map fun s => s.data.toList⟩, some a2, c2, key _ _ _ (by rw [hlen]; exact one_at _ _ _ e2), ⟨by rw [texts_len, hlen]; exact hl2, fun hn => ?_⟩, fun x hx => ?_⟩
        rotate_left
        · obtain ⟨s, hs, rfl⟩ := List.mem_map.1 hx
          injection hxx with hx1 hx2
          injection hDi with hD1 hD2
          have hw2 : s.data.toList.length ∈ DataW.weights Tryz.prog 23 y2.1 := by
            rw [hy2, DataW.weights, Tryz.underlying23]
            exact List.mem_cons.2 (.inr (List.mem_append.2 (.inl (strs_weights _ _ s hs))))
          have hw3 : s.data.toList.length ∈ DataW.weights Tryz.prog 72 (D i) := by
            rw [hD1, DataW.weights, Tryz.underlying72]
            exact DataW.weights_mem_each (j := 2) rfl rfl _ hw2
          have hw4 : s.data.toList.length ∈ DataW.weightsEach Tryz.prog ts ds := DataW.weights_mem_each hj0 hd _ (by
            rw [hx1, DataW.weights, Tryz.underlying25]
            exact List.mem_cons.2 (.inr (List.mem_append.2 (.inl (all_weights _ (List.mem_map.2 ⟨i, List.mem_range.2 (by omega), rfl⟩) hw3)))))
          have := List.all_eq_true.1 hz _ hw4
          rw [reach_eq] at this
          simpa using this
        rw [texts_len, hlen] at hn
        obtain ⟨ab, ao, spot⟩ := a2
        have hspot : spot = none := by simpa [Addr.add] using World.cell?_spot (hcell2 0 (by omega))
        subst hspot
        have hcj : ∀ j, j < l2 → W.cell? ⟨ab, ao + j, none⟩ = some (.string (zs.getD j ByteArray.empty)) := fun j hj => by
          have := hcell2 j (by omega)
          rwa [Addr.add_mid] at this
        refine ⟨ab, ao, rfl, World.block_lt_of_cell? W ⟨ab, ao + 0, none⟩ (hcj 0 hn), fun j u hj => ?_⟩
        have hjl : j < l2 := by have := (List.getElem?_eq_some_iff.1 hj).1; rw [texts_len, hlen] at this; exact this
        rw [hcj j hjl, ← hj, texts_at _ _ (by rw [hlen]; exact hjl)]
        simp [List.getD_eq_getElem?_getD, hjl, List.getElem?_eq_getElem (show j < zs.length by omega)]
    obtain ⟨L, hLl, hQ⟩ := list_of _ len hel
    refine ⟨L, some a, m, by rw [hLl], ⟨by omega, fun hn => ?_⟩, fun e he => ?_, by omega⟩
    rotate_left
    · obtain ⟨j, hjl, hje⟩ := List.getElem_of_mem he
      obtain ⟨_, _, _, _, h3⟩ := hQ j e (by rw [List.getElem?_eq_getElem hjl, hje])
      exact h3
    obtain ⟨ab, ao, spot⟩ := a
    obtain ⟨e0, A0, c0, hc0, _, _⟩ := hel 0 (by omega)
    have hspot : spot = none := by simpa [Addr.add] using World.cell?_spot (hc0 0 _ rfl)
    subst hspot
    have hlt : ab < W.heap.size := by
      have := hc0 0 _ rfl
      rw [Addr.add_mid, Addr.add_mid] at this
      exact World.block_lt_of_cell? W _ this
    refine ⟨ab, ao, rfl, hlt, fun j e hj => ?_⟩
    obtain ⟨A', c', h1, h2, _⟩ := hQ j e hj
    refine ⟨A', c', fun k u hk => ?_, h2⟩
    have := h1 k u hk
    rw [Addr.add_mid, Addr.add_mid] at this
    rw [Nat.mul_comm 3 j]
    exact this
end
end Go.Proofs.YtnehgogajghefaaGreatDoor.Hu
namespace Go.Proofs.YtnehgogajghefaaGreatDoor.Hu
open Go Go.RowKit Kt Lw Li Df

theorem few_size (n : Nat) : ∀ (g : List Ed) (last : Int), right n last g = true → -1 ≤ last → last ≤ n → (∀ e ∈ g, e.ins.length ≤ 20) → size g ≤ n - last + 20 * g.length
  | [], last, _, _, hn, _ => by rw [size]; simp; omega
  | e :: g, last, hr, hl, _, hi => by
    obtain ⟨p, d, ep, ed, hpd, hlp, hne, hr'⟩ := right_head hr hl
    have h1 := few_size n g _ hr' (by omega) (by omega) (fun e he => hi e (List.mem_cons_of_mem _ he))
    have h2 := hi e List.mem_cons_self
    rw [size, ed, List.length_cons]
    omega
end Go.Proofs.YtnehgogajghefaaGreatDoor.Hu
