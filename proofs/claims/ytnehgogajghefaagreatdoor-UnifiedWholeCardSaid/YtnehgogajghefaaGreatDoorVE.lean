/-
  unified: hunks that came in; what the rows' list and the world's shape give.
-/
import Derived.Test.YtnehgogajghefaaGreatDoorHM
import Derived.Test.YtnehgogajghefaaGreatDoorQ2
import Derived.Deep.Slices
import Derived.Deep.Fields
import Derived.Deep.Strs
import Derived.Test.YtnehgogajghefaaGreatDoorRows
import Derived.Test.YtnehgogajghefaaGreatDoorQ6
import Derived.LaidSub
import Derived.Stop.LaidErr
import Derived.Shelf.Vars
import Derived.Lib.LaidTab
namespace Go.Proofs.YtnehgogajghefaaGreatDoor.Un
open Go Go.RowKit Go.WideShapes Go.ChangeShapes Go.ChangeAt Go.ChangeMaps Go.Deep Kt Lw Df Hu

theorem list_of {α : Type} (Q : Nat → α → Prop) : ∀ n : Nat, (∀ i, i < n → ∃ a, Q i a) → ∃ L : List α, L.length = n ∧ ∀ j a, L[j]? = some a → Q j a
  | 0, _ => ⟨[], rfl, fun j a h => by simp at h⟩
  | n + 1, h => by
    obtain ⟨L, hl, hq⟩ := list_of Q n fun i hi => h i (by omega)
    obtain ⟨a, ha⟩ := h n (by omega)
    refine ⟨L ++ [a], by simp [hl], fun j b hj => ?_⟩
    rcases Nat.lt_or_ge j n with hlt | hge
    · rw [List.getElem?_append_left (by omega)] at hj
      exact hq j b hj
    · have hjl := (List.getElem?_eq_some_iff.1 hj).1
      simp [hl] at hjl
      obtain rfl : j = n := by omega
      rw [List.getElem?_append_right (by omega), hl, Nat.sub_self] at hj
      simp at hj
      rw [← hj]; exact ha
section
variable {H : Type} {enc : TypeId × Value → H}
theorem one_at (cs : List Value) (j : Nat) (v : Value) (h : (cs.drop j).take 1 = [v]) : cs[j]? = some v := by
  have h0 : ((cs.drop j).take 1)[0]? = some v := by rw [h]; rfl
  rw [List.getElem?_take, if_pos (by omega), List.getElem?_drop, Nat.add_zero] at h0
  exact h0
theorem trod_struct5 {P : Program} {w : World} {base : Nat} {spare : Nat → Bool} {held : Bool} {t : TypeId} {f0 f1 f2 f3 f4 : Field} {fuel : Nat} {cs : List Value} {x : DataW H × List MemPlace} (ht : P.underlying t = some (.struct #[f0, f1, f2, f3, f4])) (h : DataW.trod enc P w base spare held fuel t cs = some x) :
    ∃ y0 y1 y2 y3 y4 n, x = (.agg [y0.1, y1.1, y2.1, y3.1, y4.1], y0.2 ++ (y1.2 ++ (y2.2 ++ (y3.2 ++ y4.2)))) ∧ cs.length = P.cellsOf t ∧ DataW.trod enc P w base spare held n f0.type ((cs.drop f0.offset).take (P.cellsOf f0.type)) = some y0 ∧
      DataW.trod enc P w base spare held n f1.type ((cs.drop f1.offset).take (P.cellsOf f1.type)) = some y1 ∧ DataW.trod enc P w base spare held n f2.type ((cs.drop f2.offset).take (P.cellsOf f2.type)) = some y2 ∧
      DataW.trod enc P w base spare held n f3.type ((cs.drop f3.offset).take (P.cellsOf f3.type)) = some y3 ∧ DataW.trod enc P w base spare held n f4.type ((cs.drop f4.offset).take (P.cellsOf f4.type)) = some y4 := by
  obtain ⟨xs, n, _, rfl, hl, hlen, hf⟩ := DataW.trod_struct ht h
  match xs, hlen with
  | [y0, y1, y2, y3, y4], _ => exact ⟨y0, y1, y2, y3, y4, n, by simp, hl, by simpa using hf 0 f0 rfl, by simpa using hf 1 f1 rfl, by simpa using hf 2 f2 rfl, by simpa using hf 3 f3 rfl, by simpa using hf 4 f4 rfl⟩
set_option maxRecDepth 100000 in
theorem open_hunks {W : World} {base : Nat} {v : Value} {d : DataW H} {ps : List MemPlace}
    (hval : Value.okWide Tryz.prog W .any base 27 v) (h : DataW.Trod enc Tryz.prog W 0 (fun _ => true) true 27 v d ps) :
    ∃ (L : List Hk) (A : Option Addr) (c : Nat), v = .slice A L.length c ∧ Hks W A c L ∧ L.length ≤ maxLen := by
  obtain ⟨a1, len, cap, rfl⟩ := okWide_slice Tryz.underlying27 hval
  obtain ⟨fuel, hf⟩ := h
  rcases open_slice Tryz.underlying27 hf with ⟨hcs, _⟩ | ⟨a, len', cap', m, n, D, Pl, hcs, _, hl, hm, hmm, _, hi⟩
  · simp [Value.cells] at hcs
    obtain ⟨rfl, rfl, rfl⟩ := hcs
    exact ⟨[], none, 0, rfl, Hks.nil _ _ _, Nat.zero_le _⟩
  · simp [Value.cells] at hcs
    obtain ⟨rfl, rfl, rfl⟩ := hcs
    simp only [if_true] at hmm
    subst hmm
    have hC : Tryz.prog.cellsOf 36 = 5 := by kernel_rfl
    have cI : Tryz.prog.cellsOf 3 = 1 := by kernel_rfl
    have cS : Tryz.prog.cellsOf 23 = 1 := by kernel_rfl
    have cT : Tryz.prog.cellsOf 9 = 1 := by kernel_rfl
    rw [hC] at hi
    have hel : ∀ i, i < len → ∃ e : Hk, ∃ A' c', (∀ k u, (hkC e (.slice A' e.lines.length c'))[k]? = some u → W.cell? ((a.add (i * 5)).add k) = some u) ∧ Vs W (fun b => b < W.heap.size) A' c' (texts e.lines) := by
      intro i hil
      obtain ⟨cs', hc, ht⟩ := hi i (by omega)
      obtain ⟨_, hcl, hat⟩ := World.cells?_some hc
      obtain ⟨y0, y1, y2, y3, y4, n', _, _, h0, h1, h2, h3, h4⟩ := trod_struct5 Tryz.underlying36 ht
      simp only [cI, cS] at h0 h1 h2 h3 h4
      obtain ⟨z0, e0, _, _⟩ := DataW.trod_int Tryz.underlying3 h0
      obtain ⟨z1, e1, _, _⟩ := DataW.trod_int Tryz.underlying3 h1
      obtain ⟨z2, e2, _, _⟩ := DataW.trod_int Tryz.underlying3 h2
      obtain ⟨z3, e3, _, _⟩ := DataW.trod_int Tryz.underlying3 h3
      have k0 := one_at _ _ _ e0
      have k1 := one_at _ _ _ e1
      have k2 := one_at _ _ _ e2
      have k3 := one_at _ _ _ e3
      have key : ∀ (l : Ls) (A' : Option Addr) (c' : Nat), cs'[4]? = some (.slice A' l.length c') → ∀ k u, (hkC ⟨z0, z1, z2, z3, l⟩ (.slice A' l.length c'))[k]? = some u → W.cell? ((a.add (i * 5)).add k) = some u := by
        intro l A' c' k4 k u hk
        have hk5 : k < 5 := (List.getElem?_eq_some_iff.1 hk).1
        rw [hat k hk5]
        rcases k with _ | _ | _ | _ | _ | k
        · rw [k0, ← hk]; rfl
        · rw [k1, ← hk]; rfl
        · rw [k2, ← hk]; rfl
        · rw [k3, ← hk]; rfl
        · rw [k4, ← hk]; rfl
        · omega
      rcases open_strings Tryz.underlying23 Tryz.underlying9 cT h4 with ⟨e4, _⟩ | ⟨a2, l2, c2, zs, e4, _, hl2, hm2, hz2, _, hcell2, _⟩
      · exact ⟨⟨z0, z1, z2, z3, []⟩, none, 0, key [] none 0 (one_at _ _ _ e4), Nat.le_refl _, fun h => by simp [texts] at h⟩
      · simp only [if_true] at hz2
        have hlen : ((zs.take l2).map fun s => s.data.toList).length = l2 := by rw [List.length_map, List.length_take]; omega
        refine ⟨⟨z0, z1, z2, z3, (zs.take l2).map fun s => s.data.toList⟩, some a2, c2, key _ _ _ (by rw [hlen]; exact one_at _ _ _ e4), by rw [texts_len, hlen]; exact hl2, fun hn => ?_⟩
        rw [texts_len, hlen] at hn
        obtain ⟨ab, ao, spot⟩ := a2
        have hspot : spot = none := by simpa [Addr.add] using World.cell?_spot (hcell2 0 (by omega))
        subst hspot
        have hcj : ∀ j, j < l2 → W.cell? ⟨ab, ao + j, none⟩ = some (.string (zs.getD j ByteArray.empty)) := fun j hj => by
          have := hcell2 j (by omega)
          rwa [Addr.add_mid] at this
        refine ⟨ab, ao, rfl, World.block_lt_of_cell? W ⟨ab, ao + 0, none⟩ (hcj 0 hn), fun j u hj => ?_⟩
        have hjl : j < l2 := by have := (List.getElem?_eq_some_iff.1 hj).1; rw [texts_len, hlen] at this; exact this
        rw [hcj j hjl, ← hj, texts_at _ _ (by rw [hlen]; exact hjl)]
        simp [List.getD_eq_getElem?_getD, hjl, List.getElem?_eq_getElem (show j < zs.length by omega)]
    obtain ⟨L, hLl, hQ⟩ := list_of _ len hel
    refine ⟨L, some a, m, by rw [hLl], ⟨by omega, fun hn => ?_⟩, by omega⟩
    obtain ⟨ab, ao, spot⟩ := a
    obtain ⟨e0, A0, c0, hc0, _⟩ := hel 0 (by omega)
    have hspot : spot = none := by simpa [Addr.add] using World.cell?_spot (hc0 0 _ rfl)
    subst hspot
    have hlt : ab < W.heap.size := by
      have := hc0 0 _ rfl
      rw [Addr.add_mid, Addr.add_mid] at this
      exact World.block_lt_of_cell? W _ this
    refine ⟨ab, ao, rfl, hlt, fun j e hj => ?_⟩
    obtain ⟨A', c', h1, h2⟩ := hQ j e hj
    refine ⟨A', c', fun k u hk => ?_, h2⟩
    have := h1 k u hk
    rw [Addr.add_mid, Addr.add_mid] at this
    rw [Nat.mul_comm 5 j]
    exact this
end
end Go.Proofs.YtnehgogajghefaaGreatDoor.Un
namespace Go.Proofs.YtnehgogajghefaaGreatDoor.Un
open Go.ChangeShapes Go.WideShapes Go.ChangeAt Go.RowKit Kt

theorem gPow : Tryz.prog.globalNamed "internal/strconv.uint64pow10" = some 1 := by kernel_rfl
theorem gPowType : (Tryz.prog.globals[1]?).map (·.type) = some 120 := by kernel_rfl
theorem cells20 : Tryz.prog.cellsOf 120 = 20 := by kernel_rfl
theorem cellsU : Tryz.prog.cellsOf 108 = 1 := by kernel_rfl
theorem gSyn : Tryz.prog.globalNamed "strconv.ErrSyntax" = some 2 := by kernel_rfl
theorem gSynType : (Tryz.prog.globals[2]?).map (·.type) = some 61 := by kernel_rfl
theorem gRng : Tryz.prog.globalNamed "strconv.ErrRange" = some 3 := by kernel_rfl
theorem gRngType : (Tryz.prog.globals[3]?).map (·.type) = some 61 := by kernel_rfl
theorem cellsE : Tryz.prog.cellsOf 140 = 1 := by kernel_rfl
theorem cellsS : Tryz.prog.cellsOf 9 = 1 := by kernel_rfl
theorem star : "*" ++ "errors.errorString" = "*errors.errorString" := by decide
theorem rowE (u : TypeId) (h : Tryz.prog.typeName? 3 u = some "*errors.errorString") : u = 138 :=
  typeName_ptr_named (nm := "errors.errorString") (by rw [star]; kernel_rfl) (by kernel_rfl) (by decide) u (by rw [star]; exact h)
theorem most_of {W : World} (h : W.ShapedOpen Tryz.prog) : ∃ m, W.cell? ⟨0, 0, none⟩ = some (.int .i64 m) :=
  cell_of_shapedOpen_int (zero := #[.int .i64 0]) (t := 3) h (of_decide_eq_true (by kernel_rfl)) (by kernel_rfl) rfl (by kernel_rfl) (by kernel_rfl) Tryz.underlying3
abbrev laid5 : List (String × DataW Unit) := [("math/bits.deBruijn32tab", Rows.laid_math_bits_deBruijn32tab), ("math/bits.deBruijn64tab", Rows.laid_math_bits_deBruijn64tab), ("internal/strconv.uint64pow10", Rows.laid_internal_strconv_uint64pow10), ("strconv.ErrRange", Rows.laid_strconv_ErrRange), ("strconv.ErrSyntax", Rows.laid_strconv_ErrSyntax)]
theorem env_of {W : World} (h : laidMetH Tryz.prog laid5 W) (hsh : W.ShapedOpen Tryz.prog) : Env W := by
  have h1 : laidMet Tryz.prog [("internal/strconv.uint64pow10", Rows.laid_internal_strconv_uint64pow10)] W := h.filter fun x => x.1 == "internal/strconv.uint64pow10"
  have h2 : laidMet Tryz.prog [("strconv.ErrSyntax", Rows.laid_strconv_ErrSyntax)] W := h.filter fun x => x.1 == "strconv.ErrSyntax"
  have h3 : laidMet Tryz.prog [("strconv.ErrRange", Rows.laid_strconv_ErrRange)] W := h.filter fun x => x.1 == "strconv.ErrRange"
  obtain ⟨a1, s1, hv1, -, -, -⟩ := laid_sentinel h2 gSyn gSynType Tryz.underlying61 rowE Tryz.underlying138 Tryz.underlying140 rfl rfl Tryz.underlying9 cellsE cellsS
  obtain ⟨a2, s2, hv2, -, -, -⟩ := laid_sentinel h3 gRng gRngType Tryz.underlying61 rowE Tryz.underlying138 Tryz.underlying140 rfl rfl Tryz.underlying9 cellsE cellsS
  exact ⟨Lib.tabIs_of_head (rest := []) gPow gPowType Tryz.underlying120 Tryz.underlying108 cellsU cells20 h1, most_of hsh,
    ⟨_, _, by have h0 := World.var?_cell gSyn hv1 0; simpa using h0⟩, ⟨_, _, by have h0 := World.var?_cell gRng hv2 0; simpa using h0⟩⟩
theorem own : ownKnob Tryz.prog.godebug = none := by kernel_rfl
theorem laidOut : laidOutB Tryz.prog = true := by kernel_rfl
end Go.Proofs.YtnehgogajghefaaGreatDoor.Un
