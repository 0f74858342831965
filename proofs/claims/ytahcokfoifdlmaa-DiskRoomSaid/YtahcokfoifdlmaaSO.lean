/-
  A slice of a disk's operations that came in.
-/
import Derived.Test.YtahcokfoifdlmaaSF
import Derived.Test.YtahcokfoifdlmaaWT
namespace Go.Proofs.Ytahcokfoifdlmaa.Dk
open Go Go.RowKit Go.WideShapes Go.ChangeShapes Go.ChangeAt Go.ChangeMaps Go.Deep Kt Lw Wt

theorem list_of {α : Type} (Q : Nat → α → Prop) : ∀ n : Nat, (∀ i, i < n → ∃ a, Q i a) → ∃ L : List α, L.length = n ∧ ∀ j a, L[j]? = some a → Q j a
  | 0, _ => ⟨[], rfl, fun j a h => by simp at h⟩
  | n + 1, h => by
    obtain ⟨L, hl, hq⟩ := list_of Q n fun i hi => h i (by omega)
    obtain ⟨a, ha⟩ := h n (by omega)
    refine ⟨L ++ [a], by simp [hl], fun j b hj => ?_⟩
    rcases Nat.lt_or_ge j n with hlt | hge
    · rw [List.getElem?_append_left (by omega)] at hj
      exact hq j b hj
    · have hjl := (List.getElem?_eq_some_iff.1 hj).1
      simp [hl] at hjl
      obtain rfl : j = n := by omega
      rw [List.getElem?_append_right (by omega), hl, Nat.sub_self] at hj
      simp at hj
      rw [← hj]; exact ha
section
variable {H : Type} {enc : TypeId × Value → H}
theorem one_at (cs : List Value) (j : Nat) (v : Value) (h : (cs.drop j).take 1 = [v]) : cs[j]? = some v := by
  have h0 : ((cs.drop j).take 1)[0]? = some v := by rw [h]; rfl
  rw [List.getElem?_take, if_pos (by omega), List.getElem?_drop, Nat.add_zero] at h0
  exact h0
set_option maxRecDepth 100000 in
theorem open_ops {W : World} {base : Nat} {v : Value} {d : DataW H} {ps : List MemPlace}
    (hval : Value.okWide Try.prog W .any base 22 v) (h : DataW.Trod enc Try.prog W 0 (fun _ => true) true 22 v d ps) :
    ∃ (L : List Op) (A : Option Addr) (c : Nat), v = .slice A L.length c ∧ (Ops W A c L ∧ ∀ o ∈ L, o.small) ∧ L.length ≤ maxLen := by
  obtain ⟨a1, len, cap, rfl⟩ := okWide_slice Try.underlying22 hval
  obtain ⟨fuel, hf⟩ := h
  rcases open_slice Try.underlying22 hf with ⟨hcs, _⟩ | ⟨a, len', cap', m, n, D, Pl, hcs, _, hl, hm, hmm, _, hi⟩
  · simp [Value.cells] at hcs
    obtain ⟨rfl, rfl, rfl⟩ := hcs
    exact ⟨[], none, 0, rfl, ⟨Ops.nil _ _ _, fun o ho => by cases ho⟩, Nat.zero_le _⟩
  · simp [Value.cells] at hcs
    obtain ⟨rfl, rfl, rfl⟩ := hcs
    simp only [if_true] at hmm
    subst hmm
    have hC : Try.prog.cellsOf 35 = 3 := by kernel_rfl
    have cI : Try.prog.cellsOf 3 = 1 := by kernel_rfl
    have cS : Try.prog.cellsOf 30 = 1 := by kernel_rfl
    have c8 : Try.prog.cellsOf 5 = 1 := cells8
    rw [hC] at hi
    have hel : ∀ i, i < len → ∃ e : Op, (∃ A' c', (∀ k u, (opC e (.slice A' e.b.length c'))[k]? = some u → W.cell? ((a.add (i * 3)).add k) = some u) ∧ Sl W (fun b => b < W.heap.size) A' c' e.b) ∧ e.small := by
      intro i hil
      obtain ⟨cs', hc, ht⟩ := hi i (by omega)
      obtain ⟨_, hcl, hat⟩ := World.cells?_some hc
      obtain ⟨y0, y1, y2, n', _, _, h0, h1, h2⟩ := trod_struct3 Try.underlying35 ht
      simp only [cI, cS, c8] at h0 h1 h2
      obtain ⟨p, e0, _, hp⟩ := DataW.trod_int Try.underlying5 h0
      obtain ⟨dl, e2, _, hdl⟩ := DataW.trod_int Try.underlying3 h2
      have hpb := bounds_u8 hp
      have hdb := bounds_i64 hdl
      have k0 := one_at _ _ _ e0
      have k2 := one_at _ _ _ e2
      have key : ∀ (l : List UInt8) (A' : Option Addr) (c' : Nat), cs'[1]? = some (.slice A' l.length c') → ∀ k u, (opC ⟨p.toNat, l, dl⟩ (.slice A' l.length c'))[k]? = some u → W.cell? ((a.add (i * 3)).add k) = some u := by
        intro l A' c' k1 k u hk
        have hk3 : k < 3 := (List.getElem?_eq_some_iff.1 hk).1
        rw [hat k hk3]
        rcases k with _ | _ | _ | k
        · rw [k0, ← hk]
          show some (Value.int .u8 p) = some (Value.int .u8 (p.toNat : Int))
          rw [Int.toNat_of_nonneg hpb.1]
        · rw [k1, ← hk]; rfl
        · rw [k2, ← hk]; rfl
        · omega
      rcases open_ints Try.underlying30 Try.underlying5 c8 h1 with ⟨e1, _⟩ | ⟨a2, l2, c2, zs, e1, _, hl2, hm2, hz2, _, hcell2, hwz⟩
      · exact ⟨⟨p.toNat, [], dl⟩, ⟨none, 0, key [] none 0 (one_at _ _ _ e1), Sl.nil _ _ _ _⟩, ⟨by simp only []; omega, by simp only []; omega⟩⟩
      · simp only [if_true] at hz2
        have hlen : ((zs.take l2).map fun n => UInt8.ofNat n.toNat).length = l2 := by rw [List.length_map, List.length_take]; omega
        refine ⟨⟨p.toNat, (zs.take l2).map fun n => UInt8.ofNat n.toNat, dl⟩, ⟨some a2, c2, key _ _ _ (by rw [hlen]; exact one_at _ _ _ e1), by rw [hlen]; exact hl2, fun hn => ?_⟩, ⟨by simp only []; omega, by simp only []; omega⟩⟩
        rw [hlen] at hn ⊢
        obtain ⟨ab, ao, spot⟩ := a2
        have hspot : spot = none := by simpa [Addr.add] using World.cell?_spot (hcell2 0 (by omega))
        subst hspot
        have hcj : ∀ j, j < l2 → W.cell? ⟨ab, ao + j, none⟩ = some (.int .u8 (zs.getD j 0)) := fun j hj => by
          have := hcell2 j (by omega)
          rwa [Addr.add_mid] at this
        refine ⟨ab, ao, rfl, World.block_lt_of_cell? W ⟨ab, ao + 0, none⟩ (hcj 0 hn), fun j hj => ?_⟩
        rw [hcj j hj]
        have hb := bounds_u8 (hwz (zs.getD j 0) (by
          rw [List.getD_eq_getElem?_getD, List.getElem?_eq_getElem (by omega)]
          exact List.getElem_mem _))
        have e : (((zs.take l2).map fun n => UInt8.ofNat n.toNat).getD j 0) = UInt8.ofNat (zs.getD j 0).toNat := by
          simp [List.getD_eq_getElem?_getD, hj, List.getElem?_eq_getElem (show j < zs.length by omega)]
        rw [e, UInt8.toNat_ofNat']
        congr 2
        omega
    obtain ⟨L, hLl, hQ⟩ := list_of _ len hel
    refine ⟨L, some a, m, by rw [hLl], ⟨⟨by omega, fun hn => ?_⟩, fun o ho => ?_⟩, by omega⟩
    · obtain ⟨ab, ao, spot⟩ := a
      obtain ⟨e0, ⟨A0, c0, hc0, _⟩, _⟩ := hel 0 (by omega)
      have hspot : spot = none := by simpa [Addr.add] using World.cell?_spot (hc0 0 _ rfl)
      subst hspot
      have hlt : ab < W.heap.size := by
        have := hc0 0 _ rfl
        rw [Addr.add_mid, Addr.add_mid] at this
        exact World.block_lt_of_cell? W _ this
      refine ⟨ab, ao, rfl, hlt, fun j e hj => ?_⟩
      obtain ⟨⟨A', c', h1, h2⟩, _⟩ := hQ j e hj
      refine ⟨A', c', fun k u hk => ?_, h2⟩
      have := h1 k u hk
      rw [Addr.add_mid, Addr.add_mid] at this
      rw [Nat.mul_comm 3 j]
      exact this
    · obtain ⟨j, hj⟩ := List.getElem?_of_mem ho
      exact (hQ j o hj).2
end
end Go.Proofs.Ytahcokfoifdlmaa.Dk
