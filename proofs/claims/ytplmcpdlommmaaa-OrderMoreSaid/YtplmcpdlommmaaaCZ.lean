/-
  Nodes in a row of the call's own: read as nodes; many appended at once.
-/
import Derived.Test.YtplmcpdlommmaaaCX
namespace Go.Proofs.Ytplmcpdlommmaaa.Oq
open Go Go.RowKit Kt Kg Lw Tr Dq

/-- the parents of these, in a world of which no block turns -/
def NdV (w : World) (V : List (Nd × Value)) : Prop := ∀ p ∈ V, ∃ A c, p.2 = .slice A p.1.ps.length c ∧ Vs w (fun b => b < w.heap.size) A c (texts p.1.ps)
theorem NdV.keep {w w' : World} {V : List (Nd × Value)} (h : NdV w V) (hb : Below w.heap.size w w') : NdV w' V := fun p hp => by
  obtain ⟨A, c, h1, h2⟩ := h p hp
  exact ⟨A, c, h1, vs_on h2 hb⟩
theorem NdV.one {w : World} {V : List (Nd × Value)} (h : NdV w V) : ∀ u ∈ V.flatMap ndP, u.oneCell' = true := fun u hu => by
  obtain ⟨p, hp, hu⟩ := List.mem_flatMap.1 hu
  obtain ⟨A, c, h1, _⟩ := h p hp
  simp only [ndP, ndC, List.mem_cons, List.not_mem_nil, or_false] at hu
  rcases hu with rfl | rfl | rfl
  · rfl
  · rw [h1]; rfl
  · rfl
theorem flat_ndP_len (V : List (Nd × Value)) : (V.flatMap ndP).length = V.length * 3 := by
  induction V with
  | nil => rfl
  | cons p V ih => rw [List.flatMap_cons, List.length_append, ih, ndP_len, List.length_cons]; omega
theorem nds_split {w : World} {A : Option Addr} {c : Nat} {L : List Nd} (h : Nds w A c L) : ∃ V : List (Nd × Value), V.map (·.1) = L ∧ NdV w V ∧ (0 < L.length → ∃ b o, A = some ⟨b, o, none⟩ ∧ b < w.heap.size ∧ ∀ j u, (V.flatMap ndP)[j]? = some u → w.cell? ⟨b, o + j, none⟩ = some u) := by
  by_cases h0 : L.length = 0
  · obtain rfl := List.length_eq_zero_iff.1 h0
    exact ⟨[], rfl, (fun p hp => by cases hp), fun h => by simp at h⟩
  obtain ⟨b, o, rfl, hlt, he⟩ := h.2 (by omega)
  obtain ⟨V, hl, hV⟩ := nodes_of (fun j (p : Nd × Value) => L[j]? = some p.1 ∧ ∃ A' c', p.2 = .slice A' p.1.ps.length c' ∧ w.rangeAt b (o + 3 * j) (ndC p.1 p.2) ∧ Vs w (fun b => b < w.heap.size) A' c' (texts p.1.ps)) L.length fun i hi => by
    have hn : L[i]? = some L[i] := List.getElem?_eq_getElem hi
    obtain ⟨A', c', h1, h2⟩ := he i _ hn
    exact ⟨(L[i], .slice A' L[i].ps.length c'), hn, A', c', rfl, h1, h2⟩
  have hmap : V.map (·.1) = L := List.ext_getElem? fun j => by
    rw [List.getElem?_map]
    cases hj : V[j]? with
    | some p => exact (hV j p hj).1.symm
    | none => exact (List.getElem?_eq_none (by have := List.getElem?_eq_none_iff.1 hj; omega)).symm
  refine ⟨V, hmap, fun p hp => ?_, fun _ => ⟨b, o, rfl, hlt, fun j u hu => ?_⟩⟩
  · obtain ⟨j, hj⟩ := List.mem_iff_getElem?.1 hp
    obtain ⟨_, A', c', h1, _, h2⟩ := hV j p hj
    exact ⟨A', c', h1, h2⟩
  · have hj := (List.getElem?_eq_some_iff.1 hu).1
    rw [flat_ndP_len] at hj
    obtain ⟨p, hp⟩ : ∃ p, V[j / 3]? = some p := ⟨_, List.getElem?_eq_getElem (by omega)⟩
    obtain ⟨_, A', c', _, h2, _⟩ := hV _ p hp
    have hf := flat3 V (j / 3) (j % 3) p hp (by omega)
    rw [show 3 * (j / 3) + j % 3 = j from by omega, hu] at hf
    have := h2 (j % 3) u hf.symm
    rwa [show o + 3 * (j / 3) + j % 3 = o + j from by omega] at this
/-- a row of the call's own reads as its nodes -/
theorem nds_own {w : World} {B : Nat} {v : Value} {V : List (Nd × Value)} (h : NdR w B v V) (hv : NdV w V) : ∃ A c, v = .slice A V.length c ∧ Nds w A c (V.map (·.1)) := by
  have h' := h
  rcases h.2 with ⟨rfl, h0⟩ | ⟨g, cap, cur, rfl, _, hg, hnc, _⟩
  · obtain rfl := List.length_eq_zero_iff.1 h0
    exact ⟨none, 0, rfl, Nds.nil _ _ _⟩
  · refine ⟨_, cap, rfl, by rw [List.length_map]; exact hnc, fun _ => ⟨g, 0, rfl, (World.ownsRow.lt h' g rfl).2, fun j n hj => ?_⟩⟩
    rw [List.getElem?_map] at hj
    cases hp : V[j]? with
    | none => rw [hp] at hj; cases hj
    | some p =>
      rw [hp] at hj
      simp at hj
      subst hj
      have hjl : j < V.length := (List.getElem?_eq_some_iff.1 hp).1
      obtain ⟨A', c', hv2, hvs⟩ := hv p (List.mem_of_getElem? hp)
      refine ⟨A', c', fun k u hk => ?_, hvs⟩
      have hk3 : k < 3 := (List.getElem?_eq_some_iff.1 hk).1
      have := World.ownsRow.cellAt (cap := cap) h' (3 * j + k) (by omega)
      rw [flat3 V j k p hp hk3, show ndP p = ndC p.1 p.2 from rfl, hv2, hk] at this
      rw [show 0 + 3 * j + k = 3 * j + k from by omega]
      exact this
theorem run_append_nothingN {w : World} {ty : TypeId} {i : TypeInfo} (hi : Try.prog.info? tNd = some i) {B : Nat} {v : Value} {n : Nat} {xs : List Value} (hown : w.ownsRow B tNd 3 v n xs) (c : Nat) : (Builtin.append_ #[tNds, tNds] ty #[v, .slice none 0 c]).run Try.prog w = .ok v w := by
  rcases hown.2 with ⟨rfl, rfl⟩ | ⟨g, cap, cur, rfl, _, _, hnc, _⟩
  · simp [Builtin.append_, run_underlying Try.underlying22, sizeOf, typeInfo, hi, Builtin.lenOf, Builtin.firstCells]
  · simp [Builtin.append_, run_underlying Try.underlying22, sizeOf, typeInfo, hi, Builtin.lenOf, Builtin.firstCells, hnc, storeCells]
set_option maxRecDepth 100000 in
/-- append(s, nodes..) -/
theorem wp_catNd {o : Oper} {a : Act} {K : Act → World → Prop} {Q : Exit → Act → World → Prop} {W : World} (s x : Operand)
    (ho : o.op = .call { callee := .builtin .append, args := #[s, x], argTypes := #[tNds, tNds] })
    (B : Nat) (w0 : World) (v : Value) (V V2 : List (Nd × Value)) (A : Option Addr) (c : Nat) (hs : a.eval s = v) (hx : a.eval x = .slice A V2.length c)
    (hown : NdR W B v V) (hc : 0 < V2.length → ∃ b o, A = some ⟨b, o, none⟩ ∧ ∀ j u, (V2.flatMap ndP)[j]? = some u → W.cell? ⟨b, o + j, none⟩ = some u) (h1 : ∀ u ∈ V2.flatMap ndP, u.oneCell' = true)
    (hlen : V.length + V2.length ≤ 1000000000) (hb : Below B w0 W) (hbase : B ≤ W.heap.size)
    (h : ∀ v' w', NdR w' B v' (V ++ V2) → Below B w0 w' → K (a.put o.dst v') w') : o.wp Try.prog a W K Q := by
  obtain ⟨i0, hi0, hz0, hz1, hz2⟩ := info_parts infoNd
  cases A with
  | none =>
    have h0 : V2 = [] := by
      cases V2 with
      | nil => rfl
      | cons p V2 => obtain ⟨_, _, e, _⟩ := hc (by simp); cases e
    subst h0
    have hrun := run_append_nothingN (ty := o.type) hi0 hown c
    simp only [List.length_nil] at hx
    unfold Oper.wp execOp
    simp only [ho, resolve, invoke, builtin, Sem.run_bind, Sem.run_pure, Result.andThen_ok, List.map_toArray, List.map_cons, List.map_nil, hs, hx, hrun]
    exact h v W (by rw [List.append_nil]; exact hown) hb
  | some ad =>
    refine wp_append_own _ s x tNds ho B tNd i0 (.agg #[.string ⟨#[]⟩, .slice none 0 0, .bool false]) 3 48 Try.underlying22 hi0 hz0 hz1 hz2 rfl (by omega) v V.length (V.flatMap ndP) hs hown
      ad V2.length c (V2.flatMap ndP) hx (flat_ndP_len V2) (fun j u hu => ?_) h1 (by unfold maxLen; omega) (by omega) hbase (fun v' w' h1 h2 _ => ?_)
    · have hj := (List.getElem?_eq_some_iff.1 hu).1
      rw [flat_ndP_len] at hj
      obtain ⟨b, k, he, hcc⟩ := hc (by omega)
      injection he with he
      subst he
      rw [Addr.add_mid]
      exact hcc j u hu
    · refine h v' w' ?_ (hb.grown h2 hbase fun k hk => (World.ownsRow.lt hown k hk).1)
      unfold NdR
      rw [List.length_append, List.flatMap_append]
      exact h1
theorem wpList_catNd {ops : Array Oper} {rest : List Oper} {o : Oper} {a : Act} {Q : Exit → Act → World → Prop} {W : World} (hgd : o.guard = none) (s x : Operand)
    (ho : o.op = .call { callee := .builtin .append, args := #[s, x], argTypes := #[tNds, tNds] })
    (B : Nat) (w0 : World) (v : Value) (V V2 : List (Nd × Value)) (A : Option Addr) (c : Nat) (hs : a.eval s = v) (hx : a.eval x = .slice A V2.length c)
    (hown : NdR W B v V) (hc : 0 < V2.length → ∃ b o, A = some ⟨b, o, none⟩ ∧ ∀ j u, (V2.flatMap ndP)[j]? = some u → W.cell? ⟨b, o + j, none⟩ = some u) (h1 : ∀ u ∈ V2.flatMap ndP, u.oneCell' = true)
    (hlen : V.length + V2.length ≤ 1000000000) (hb : Below B w0 W) (hbase : B ≤ W.heap.size)
    (h : ∀ v' w', NdR w' B v' (V ++ V2) → Below B w0 w' → wpList Try.prog ops Q rest (a.put o.dst v') w') : wpList Try.prog ops Q (o :: rest) a W :=
  wpList_plain hgd fun _ hK => wp_catNd s x ho B w0 v V V2 A c hs hx hown hc h1 hlen hb hbase fun v' w' h1 h2 => hK _ _ (h v' w' h1 h2)
end Go.Proofs.Ytplmcpdlommmaaa.Oq
