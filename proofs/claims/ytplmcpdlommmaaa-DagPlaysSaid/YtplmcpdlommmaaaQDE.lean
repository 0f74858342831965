/-
  Nodes of a graph that came in.
-/
import Derived.Test.YtplmcpdlommmaaaQTA
import Derived.Test.YtplmcpdlommmaaaQKitB
import Derived.Test.YtplmcpdlommmaaaRows
import Derived.Deep.Slices
import Derived.Deep.Fields
import Derived.Deep.Strs
import Derived.Test.YtplmcpdlommmaaaQDG
import Derived.Test.YtplmcpdlommmaaaQReg
import Derived.BigQuiet
namespace Go.Proofs.Ytplmcpdlommmaaa.Dq
open Go Go.RowKit Go.WideShapes Go.ChangeShapes Go.ChangeAt Go.ChangeMaps Go.Deep Kt Lw

abbrev tNd : TypeId := 34
abbrev tNds : TypeId := 22
/-- a node's cells -/
def ndC (n : Nd) (v : Value) : List Value := [.string ⟨n.id.toArray⟩, v, .bool n.on]
theorem ndC_len (n : Nd) (v : Value) : (ndC n v).length = 3 := rfl
/-- '.slice A n c' reads as these nodes -/
def Nds (w : World) (A : Option Addr) (c : Nat) (L : List Nd) : Prop :=
  L.length ≤ c ∧ (0 < L.length → ∃ b o, A = some ⟨b, o, none⟩ ∧ b < w.heap.size ∧ ∀ j n, L[j]? = some n →
    ∃ A' c', w.rangeAt b (o + 3 * j) (ndC n (.slice A' n.ps.length c')) ∧ Vs w (fun b => b < w.heap.size) A' c' (texts n.ps))
theorem Nds.nil (w : World) (A : Option Addr) (c : Nat) : Nds w A c [] := ⟨Nat.zero_le _, fun h => by simp at h⟩
theorem vs_on {w w' : World} {A : Option Addr} {c : Nat} {vs : List Value} (h : Vs w (fun b => b < w.heap.size) A c vs) (hb : Below w.heap.size w w') : Vs w' (fun b => b < w'.heap.size) A c vs :=
  ⟨h.1, fun h0 => by
    obtain ⟨b, o, e, hp, hc⟩ := h.2 h0
    exact ⟨b, o, e, Nat.lt_of_lt_of_le hp hb.size, fun j v hj => (World.cell?_of_block (a := ⟨b, o + j, none⟩) (hb.block b hp)).trans (hc j v hj)⟩⟩
theorem Nds.keep {w w' : World} {A : Option Addr} {c : Nat} {L : List Nd} (h : Nds w A c L) (hb : Below w.heap.size w w') : Nds w' A c L :=
  ⟨h.1, fun hn => by
    obtain ⟨b, o, rfl, hlt, he⟩ := h.2 hn
    refine ⟨b, o, rfl, Nat.lt_of_lt_of_le hlt hb.size, fun j e hj => ?_⟩
    obtain ⟨A', c', hr, hv⟩ := he j e hj
    exact ⟨A', c', fun i v hi => (World.cell?_of_block (a := ⟨b, o + 3 * j + i, none⟩) (hb.block b hlt)).trans (hr i v hi), vs_on hv hb⟩⟩
theorem Nds.at {w w' : World} {A : Option Addr} {c : Nat} {L : List Nd} (h : Nds w A c L) (hb : Below w.heap.size w w') {k : Nat} {n : Nd} (hk : L[k]? = some n) :
    ∃ b o A' c', A = some ⟨b, o, none⟩ ∧ w'.cell? ⟨b, o + k * 3, none⟩ = some (.string ⟨n.id.toArray⟩) ∧ w'.cell? ⟨b, o + k * 3 + 1, none⟩ = some (.slice A' n.ps.length c') ∧ w'.cell? ⟨b, o + k * 3 + 2, none⟩ = some (.bool n.on) ∧
      Vs w (fun b => b < w.heap.size) A' c' (texts n.ps) := by
  obtain ⟨b, o, rfl, hlt, he⟩ := h.2 (by have := (List.getElem?_eq_some_iff.1 hk).1; omega)
  obtain ⟨A', c', h1, h2⟩ := he k _ hk
  rw [Nat.mul_comm] at h1
  have h3 : ∀ i v, (ndC n (.slice A' n.ps.length c'))[i]? = some v → w'.cell? ⟨b, o + k * 3 + i, none⟩ = some v := fun i v hi => (World.cell?_of_block (a := ⟨b, o + k * 3 + i, none⟩) (hb.block b hlt)).trans (h1 i v hi)
  exact ⟨b, o, A', c', rfl, h3 0 _ rfl, h3 1 _ rfl, h3 2 _ rfl, h2⟩
/-- the cells of a node, in every world behind -/
theorem Nds.ever {w : World} {A : Option Addr} {c : Nat} {L : List Nd} (h : Nds w A c L) {k : Nat} {n : Nd} (hk : L[k]? = some n) :
    ∃ b o A' c', A = some ⟨b, o, none⟩ ∧ (∀ w' : World, Below w.heap.size w w' → w'.cell? ⟨b, o + k * 3, none⟩ = some (.string ⟨n.id.toArray⟩) ∧ w'.cell? ⟨b, o + k * 3 + 1, none⟩ = some (.slice A' n.ps.length c')) ∧
      Vs w (fun b => b < w.heap.size) A' c' (texts n.ps) := by
  obtain ⟨b, o, rfl, hlt, he⟩ := h.2 (by have := (List.getElem?_eq_some_iff.1 hk).1; omega)
  obtain ⟨A', c', h1, h2⟩ := he k _ hk
  rw [Nat.mul_comm] at h1
  refine ⟨b, o, A', c', rfl, fun w' hb => ?_, h2⟩
  have h3 : ∀ i v, (ndC n (.slice A' n.ps.length c'))[i]? = some v → w'.cell? ⟨b, o + k * 3 + i, none⟩ = some v := fun i v hi => (World.cell?_of_block (a := ⟨b, o + k * 3 + i, none⟩) (hb.block b hlt)).trans (h1 i v hi)
  exact ⟨h3 0 _ rfl, h3 1 _ rfl⟩
theorem nodes_of {α : Type} (Q : Nat → α → Prop) : ∀ n : Nat, (∀ i, i < n → ∃ a, Q i a) → ∃ L : List α, L.length = n ∧ ∀ j a, L[j]? = some a → Q j a
  | 0, _ => ⟨[], rfl, fun j a h => by simp at h⟩
  | n + 1, h => by
    obtain ⟨L, hl, hq⟩ := nodes_of Q n fun i hi => h i (by omega)
    obtain ⟨a, ha⟩ := h n (by omega)
    refine ⟨L ++ [a], by simp [hl], fun j b hj => ?_⟩
    rcases Nat.lt_or_ge j n with hlt | hge
    · rw [List.getElem?_append_left (by omega)] at hj
      exact hq j b hj
    · have hjl := (List.getElem?_eq_some_iff.1 hj).1
      simp [hl] at hjl
      obtain rfl : j = n := by omega
      rw [List.getElem?_append_right (by omega), hl, Nat.sub_self] at hj
      simp at hj
      rw [← hj]; exact ha
section
variable {H : Type} {enc : TypeId × Value → H}
theorem cell_one (cs : List Value) (j : Nat) (v : Value) (h : (cs.drop j).take 1 = [v]) : cs[j]? = some v := by
  have h0 : ((cs.drop j).take 1)[0]? = some v := by rw [h]; rfl
  rw [List.getElem?_take, if_pos (by omega), List.getElem?_drop, Nat.add_zero] at h0
  exact h0
theorem trod_struct3 {P : Program} {w : World} {base : Nat} {spare : Nat → Bool} {held : Bool} {t : TypeId} {f0 f1 f2 : Field} {fuel : Nat} {cs : List Value} {x : DataW H × List MemPlace} (ht : P.underlying t = some (.struct #[f0, f1, f2])) (h : DataW.trod enc P w base spare held fuel t cs = some x) :
    ∃ y0 y1 y2 n, cs.length = P.cellsOf t ∧ DataW.trod enc P w base spare held n f0.type ((cs.drop f0.offset).take (P.cellsOf f0.type)) = some y0 ∧
      DataW.trod enc P w base spare held n f1.type ((cs.drop f1.offset).take (P.cellsOf f1.type)) = some y1 ∧ DataW.trod enc P w base spare held n f2.type ((cs.drop f2.offset).take (P.cellsOf f2.type)) = some y2 := by
  obtain ⟨xs, n, _, rfl, hl, hlen, hf⟩ := DataW.trod_struct ht h
  match xs, hlen with
  | [y0, y1, y2], _ => exact ⟨y0, y1, y2, n, hl, by simpa using hf 0 f0 rfl, by simpa using hf 1 f1 rfl, by simpa using hf 2 f2 rfl⟩
set_option maxRecDepth 100000 in
theorem open_nodes {W : World} {base : Nat} {v : Value} {d : DataW H} {ps : List MemPlace}
    (hval : Value.okWide Try.prog W .any base 22 v) (h : DataW.Trod enc Try.prog W 0 (fun _ => true) true 22 v d ps) :
    ∃ (L : List Nd) (A : Option Addr) (c : Nat), v = .slice A L.length c ∧ Nds W A c L ∧ L.length ≤ maxLen := by
  obtain ⟨a1, len, cap, rfl⟩ := okWide_slice Try.underlying22 hval
  obtain ⟨fuel, hf⟩ := h
  rcases open_slice Try.underlying22 hf with ⟨hcs, _⟩ | ⟨a, len', cap', m, n, D, Pl, hcs, _, hl, hm, hmm, _, hi⟩
  · simp [Value.cells] at hcs
    obtain ⟨rfl, rfl, rfl⟩ := hcs
    exact ⟨[], none, 0, rfl, Nds.nil _ _ _, Nat.zero_le _⟩
  · simp [Value.cells] at hcs
    obtain ⟨rfl, rfl, rfl⟩ := hcs
    simp only [if_true] at hmm
    subst hmm
    have hC : Try.prog.cellsOf 34 = 3 := by kernel_rfl
    have cB : Try.prog.cellsOf 4 = 1 := by kernel_rfl
    have cS : Try.prog.cellsOf 31 = 1 := by kernel_rfl
    have cT : Try.prog.cellsOf 23 = 1 := by kernel_rfl
    rw [hC] at hi
    have hel : ∀ i, i < len → ∃ e : Nd, ∃ A' c', (∀ k u, (ndC e (.slice A' e.ps.length c'))[k]? = some u → W.cell? ((a.add (i * 3)).add k) = some u) ∧ Vs W (fun b => b < W.heap.size) A' c' (texts e.ps) := by
      intro i hil
      obtain ⟨cs', hc, ht⟩ := hi i (by omega)
      obtain ⟨_, hcl, hat⟩ := World.cells?_some hc
      obtain ⟨y0, y1, y2, n', _, h0, h1, h2⟩ := trod_struct3 Try.underlying34 ht
      simp only [cB, cS, cT] at h0 h1 h2
      obtain ⟨p, e0, _, _⟩ := DataW.trod_string Try.underlying23 h0
      obtain ⟨gb, e2, _⟩ := DataW.trod_bool Try.underlying4 h2
      have k0 := cell_one _ _ _ e0
      have k2 := cell_one _ _ _ e2
      have key : ∀ (l : List (List UInt8)) (A' : Option Addr) (c' : Nat), cs'[1]? = some (.slice A' l.length c') → ∀ k u, (ndC ⟨p.data.toList, l, gb⟩ (.slice A' l.length c'))[k]? = some u → W.cell? ((a.add (i * 3)).add k) = some u := by
        intro l A' c' k1 k u hk
        have hk3 : k < 3 := (List.getElem?_eq_some_iff.1 hk).1
        rw [hat k hk3]
        rcases k with _ | _ | _ | k
        · rw [k0, ← hk]; rfl
        · rw [k1, ← hk]; rfl
        · rw [k2, ← hk]; rfl
        · omega
      rcases open_strings Try.underlying31 Try.underlying23 cT h1 with ⟨e1, _⟩ | ⟨a2, l2, c2, zs, e1, _, hl2, hm2, hz2, _, hcell2, _⟩
      · exact ⟨⟨p.data.toList, [], gb⟩, none, 0, key [] none 0 (cell_one _ _ _ e1), Nat.le_refl _, fun h => by simp [texts] at h⟩
      · simp only [if_true] at hz2
        have hlen : ((zs.take l2).map fun s => s.data.toList).length = l2 := by rw [List.length_map, List.length_take]; omega
        refine ⟨⟨p.data.toList, (zs.take l2).map fun s => s.data.toList, gb⟩, some a2, c2, key _ _ _ (by rw [hlen]; exact cell_one _ _ _ e1), by rw [texts_len, hlen]; exact hl2, fun hn => ?_⟩
        rw [texts_len, hlen] at hn
        obtain ⟨ab, ao, spot⟩ := a2
        have hspot : spot = none := by simpa [Addr.add] using World.cell?_spot (hcell2 0 (by omega))
        subst hspot
        have hcj : ∀ j, j < l2 → W.cell? ⟨ab, ao + j, none⟩ = some (.string (zs.getD j ByteArray.empty)) := fun j hj => by
          have := hcell2 j (by omega)
          rwa [Addr.add_mid] at this
        refine ⟨ab, ao, rfl, World.block_lt_of_cell? W ⟨ab, ao + 0, none⟩ (hcj 0 hn), fun j u hj => ?_⟩
        have hjl : j < l2 := by have := (List.getElem?_eq_some_iff.1 hj).1; rw [texts_len, hlen] at this; exact this
        rw [hcj j hjl, ← hj, texts_at _ _ (by rw [hlen]; exact hjl)]
        simp [List.getD_eq_getElem?_getD, hjl, List.getElem?_eq_getElem (show j < zs.length by omega)]
    obtain ⟨L, hLl, hQ⟩ := nodes_of _ len hel
    refine ⟨L, some a, m, by rw [hLl], ⟨by omega, fun hn => ?_⟩, by omega⟩
    obtain ⟨ab, ao, spot⟩ := a
    obtain ⟨e0, A0, c0, hc0, _⟩ := hel 0 (by omega)
    have hspot : spot = none := by simpa [Addr.add] using World.cell?_spot (hc0 0 _ rfl)
    subst hspot
    have hlt : ab < W.heap.size := by
      have := hc0 0 _ rfl
      rw [Addr.add_mid, Addr.add_mid] at this
      exact World.block_lt_of_cell? W _ this
    refine ⟨ab, ao, rfl, hlt, fun j e hj => ?_⟩
    obtain ⟨A', c', h1, h2⟩ := hQ j e hj
    refine ⟨A', c', fun k u hk => ?_, h2⟩
    have := h1 k u hk
    rw [Addr.add_mid, Addr.add_mid] at this
    rw [Nat.mul_comm 3 j]
    exact this
end
/-- nodes of a size that is looked at -/
def idsFew (l : List (List UInt8)) : Bool := decide (l.length ≤ 6) && l.all fun p => decide (p.length ≤ 40)
def fewN (L : List Nd) : Bool := (L.all fun n => decide (n.id.length ≤ 40) && idsFew n.ps) && decide (L.length ≤ 14)
theorem idsFew_spec {l : List (List UInt8)} (h : idsFew l = true) : l.length ≤ 6 ∧ ∀ p ∈ l, p.length ≤ 40 := by
  unfold idsFew at h
  rw [Bool.and_eq_true, decide_eq_true_eq, List.all_eq_true] at h
  exact ⟨h.1, fun p hp => by simpa using h.2 p hp⟩
theorem fewN_spec {L : List Nd} (h : fewN L = true) : (∀ n ∈ L, n.id.length ≤ 40 ∧ n.ps.length ≤ 6 ∧ ∀ p ∈ n.ps, p.length ≤ 40) ∧ L.length ≤ 14 := by
  unfold fewN at h
  rw [Bool.and_eq_true, decide_eq_true_eq, List.all_eq_true] at h
  refine ⟨fun n hn => ?_, h.2⟩
  have := h.1 n hn
  rw [Bool.and_eq_true, decide_eq_true_eq] at this
  exact ⟨this.1, idsFew_spec this.2⟩
end Go.Proofs.Ytplmcpdlommmaaa.Dq
namespace Go.Proofs.Ytplmcpdlommmaaa.Dq
open Go Go.RowKit Kt Kg Lw Tr

theorem few_at {l : List Nd} {k : Nat} {n : Nd} (h : (l.take k).all (fun n => decide (n.id.length ≤ 40) && idsFew n.ps) = true) (hk : l[k]? = some n) (h1 : n.id.length ≤ 40) (h2 : idsFew n.ps = true) : (l.take (k + 1)).all (fun n => decide (n.id.length ≤ 40) && idsFew n.ps) = true := by
  rw [List.take_add_one, hk, List.all_append, h]
  simp [h1, h2]
theorem few_not {l : List Nd} {k : Nat} {n : Nd} (hk : l[k]? = some n) (h : ¬ (n.id.length ≤ 40 ∧ idsFew n.ps = true)) : fewN l = false := by
  cases hf : fewN l with
  | false => rfl
  | true =>
    unfold fewN at hf
    rw [Bool.and_eq_true, List.all_eq_true] at hf
    have := hf.1 n (List.mem_of_getElem? hk)
    rw [Bool.and_eq_true, decide_eq_true_eq] at this
    exact absurd this h
set_option maxRecDepth 100000 in
set_option maxHeartbeats 4000000 in
theorem rfew_any (l : List Nd) (A : Option Addr) (c : Nat) (w : World) (hs : Nds w A c l) (hl : l.length ≤ 9223372036854775807) :
    Calls Try.prog 10 #[.slice A l.length c] w fun y w' => y = .returned (.bool (fewN l)) ∧ Below w.heap.size w w' := by
  have Hs := hide hs
  obtain ⟨N, hN⟩ : ∃ N, N = l.length := ⟨_, rfl⟩
  have HN := hide hN
  rw [← hN] at hl ⊢
  clear hs hN
  go_enter Try.func10, Try.ntmps10
  go_wp2
  go_loopw [3] (fun i wr => ∃ k : Nat, k ≤ N ∧ i = .int .i64 k ∧ Hid ((l.take k).all (fun n => decide (n.id.length ≤ 40) && idsFew n.ps) = true) ∧ Hid (Below w.heap.size w wr)) (fun i _ => N - (intOf i).toNat)
  case atStart => exact ⟨0, Nat.zero_le _, rfl, by show Hid _; exact hide rfl, by show Hid _; exact hide (Below.refl _ _)⟩
  case round =>
    obtain ⟨k, hk, rfl, HA, HB⟩ := hrel
    by_cases hlt : k < N
    · obtain ⟨n, hx⟩ : ∃ n, l[k]? = some n := ⟨_, List.getElem?_eq_getElem (by have := HN.out; omega)⟩
      obtain ⟨b, o, A', c', rfl, k0, k1, k2, hv⟩ := Hs.out.at HB.out hx
      have HV := hide hv
      have HX := hide hx
      obtain ⟨M, hM⟩ : ∃ M, M = n.ps.length := ⟨_, rfl⟩
      rw [← hM] at k1
      have HM := hide hM
      clear k2 hv hx hM
      by_cases h40 : n.id.length ≤ 40
      · have HI := hide h40
        by_cases h6 : M ≤ 6
        · have d1 : decide ((40 : Int) < (n.id.length : Int)) = false := decide_eq_false (by omega)
          have d2 : decide ((6 : Int) < (M : Int)) = false := decide_eq_false (by omega)
          have H6 := hide h6
          have HK0 := hide (And.intro k0 k1)
          obtain ⟨wo, hwo⟩ : ∃ z, z = wr := ⟨_, rfl⟩
          subst hwo
          go_wp2
          clear k0 k1 d1 d2
          go_loopw [4] (fun i wz => ∃ j : Nat, j ≤ M ∧ i = .int .i64 j ∧ Hid (∀ p ∈ n.ps.take j, p.length ≤ 40) ∧ Hid (Below wo.heap.size wo wz)) (fun i _ => M - (intOf i).toNat)
          case atStart => exact ⟨0, Nat.zero_le _, rfl, by show Hid _; exact hide (fun p hp => by simp at hp), by show Hid _; exact hide (Below.refl _ _)⟩
          case round =>
            obtain ⟨j, hj, rfl, HP, HZ⟩ := hrel
            have k1 := (World.cell?_of_block (a := ⟨b, o + k * 3 + 1, none⟩) (HZ.out.block b (World.block_lt_of_cell? wo ⟨b, o + k * 3 + 1, none⟩ HK0.out.2))).trans HK0.out.2
            have HBZ := hide (HB.out.trans (HZ.out.mono HB.out.size))
            by_cases hjl : j < M
            · obtain ⟨p, hp⟩ : ∃ p, n.ps[j]? = some p := ⟨_, List.getElem?_eq_getElem (by have := HM.out; omega)⟩
              obtain ⟨bp, op, rfl, hpb, cp⟩ := vs_at HV.out hp
              have k2 := (World.cell?_of_block (a := ⟨bp, op + j, none⟩) (HBZ.out.block bp hpb)).trans cp
              have HPx := hide hp
              clear hpb cp hp
              by_cases hp40 : p.length ≤ 40
              · have HP2 := hide (show ∀ q ∈ n.ps.take (j + 1), q.length ≤ 40 from fun q hq => by
                  rw [List.take_add_one, HPx.out] at hq
                  rcases List.mem_append.1 hq with hq | hq
                  · exact HP.out q hq
                  · obtain rfl : q = p := by simpa using hq
                    exact hp40)
                have d1 : decide ((40 : Int) < (p.length : Int)) = false := decide_eq_false (by omega)
                clear hp40
                go_wp2
                exact ⟨⟨j + 1, by omega, by go_num, by show Hid _; exact HP2, by show Hid _; exact HZ⟩, by simp [intOf]; omega⟩
              · have d1 : decide ((40 : Int) < (p.length : Int)) = true := decide_eq_true (by omega)
                have HF := hide (few_not HX.out (fun h => hp40 ((idsFew_spec h.2).2 p (List.mem_of_getElem? HPx.out))))
                clear hp40
                go_wp2
                go_ret
                exact ⟨by rw [HF.out]; rfl, HBZ.out⟩
            · obtain rfl : j = M := by omega
              have HA2 := hide (few_at HA.out HX.out HI.out (show idsFew n.ps = true by
                unfold idsFew
                rw [Bool.and_eq_true, decide_eq_true_eq, List.all_eq_true]
                refine ⟨by have := HM.out; have := H6.out; omega, fun p hp => decide_eq_true (HP.out p ?_)⟩
                rw [HM.out, List.take_length]; exact hp))
              go_wp2
              exact ⟨⟨k + 1, by omega, by go_num, by show Hid _; exact HA2, by show Hid _; exact HBZ⟩, by simp [intOf]; omega⟩
        · have d1 : decide ((40 : Int) < (n.id.length : Int)) = false := decide_eq_false (by omega)
          have d2 : decide ((6 : Int) < (M : Int)) = true := decide_eq_true (by omega)
          have HF := hide (few_not HX.out (fun h => h6 (by have := (idsFew_spec h.2).1; have := HM.out; omega)))
          go_wp2
          go_ret
          exact ⟨by rw [HF.out]; rfl, HB.out⟩
      · have d1 : decide ((40 : Int) < (n.id.length : Int)) = true := decide_eq_true (by omega)
        have HF := hide (few_not HX.out (fun h => h40 h.1))
        go_wp2
        go_ret
        exact ⟨by rw [HF.out]; rfl, HB.out⟩
    · obtain rfl : k = N := by omega
      have HF := hide (show fewN l = decide (k ≤ 14) by
        have := HA.out
        rw [HN.out, List.take_length] at this
        unfold fewN
        rw [this, Bool.true_and, HN.out])
      go_wp2
      go_ret
      have e : decide ((k : Int) ≤ 14) = decide (k ≤ 14) := by rw [decide_eq_decide]; omega
      exact ⟨by rw [HF.out, ← e]; rfl, HB.out⟩
theorem run_next {l : List Nd} {k : Nat} {n : Nd} (h : l[k]? = some n) : run (l.take (k + 1)) = (add (run (l.take k)) n.id n.ps).1 := by
  rw [List.take_add_one, h]
  exact run_snoc _ _
end Go.Proofs.Ytplmcpdlommmaaa.Dq
