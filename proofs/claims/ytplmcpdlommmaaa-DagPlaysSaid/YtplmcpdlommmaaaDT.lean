/-
  The document's graph in memory: what stays when one of its cells turns.
-/
import Derived.Test.YtplmcpdlommmaaaQDQ
import Derived.Sort.Row
namespace Go.Proofs.Ytplmcpdlommmaaa.Dq
open Go Go.RowKit Kt Kg Lw Tr

theorem infoNd : (Try.prog.info? tNd).map (fun i => (i.zero, i.size, i.bytes)) = some (some (.agg #[.string ⟨#[]⟩, .slice none 0 0, .bool false]), 3, 48) := by kernel_rfl
/-- nodes in a row of the call's own -/
def NdR (w : World) (B : Nat) (v : Value) (V : List (Nd × Value)) : Prop := w.ownsRow B tNd 3 v V.length (V.flatMap ndP)
theorem NdR.nil (w : World) (B : Nat) : NdR w B (.slice none 0 0) [] := World.ownsRow_nil _ _ _ _
theorem NdR.move {w w' : World} {B : Nat} {v : Value} {V : List (Nd × Value)} (h : NdR w B v V) (hb : ∀ g, v.ownBlock = some g → w'.heap[g]? = w.heap[g]?) : NdR w' B v V := by
  refine ⟨h.1, ?_⟩
  rcases h.2 with k | ⟨g, cap, cur, hv, h1, h2, h3⟩
  · exact .inl k
  · exact .inr ⟨g, cap, cur, hv, h1, (hb g (by rw [hv]; rfl)).trans h2, h3⟩
theorem NdR.kept {w w' : World} {B : Nat} {v : Value} {V : List (Nd × Value)} (h : NdR w B v V) (hb : Below w.heap.size w w') : NdR w' B v V := h.move fun g hg => hb.block g (World.ownsRow.lt h g hg).2
theorem wp_pushN {o : Oper} {a : Act} {K : Act → World → Prop} {Q : Exit → Act → World → Prop} {W : World} (s x : Operand)
    (ho : o.op = .call { callee := .builtin .append, args := #[s, x], argTypes := #[tNds, tNds] })
    (B : Nat) (w0 : World) (v vi : Value) (V : List (Nd × Value)) (n : Nd) (cs : Array Value) (hs : a.eval s = v) (hx : a.eval x = .slice (some ⟨W.heap.size, 0, none⟩) 1 1) (hc : cs = (ndC n vi).toArray)
    (hown : NdR W B v V) (hvi : vi.oneCell' = true) (hlen : V.length + 1 ≤ 1000000000) (hb : Below B w0 W) (hbase : B ≤ W.heap.size)
    (h : ∀ v' w', NdR w' B v' (V ++ [(n, vi)]) → Below B w0 w' → K (a.put o.dst v') w') : o.wp Try.prog a (W.alloc (.cells cs tNd)) K Q := by
  obtain ⟨i0, hi0, hz0, hz1, hz2⟩ := info_parts infoNd
  subst hc
  refine wp_append_own _ s x tNds ho B tNd i0 (.agg #[.string ⟨#[]⟩, .slice none 0 0, .bool false]) 3 48 Try.underlying22 hi0 hz0 hz1 hz2 rfl (by omega) v V.length (V.flatMap ndP) hs (World.ownsRow.alloc hown _)
    ⟨W.heap.size, 0, none⟩ 1 1 (ndC n vi) hx rfl (fun j u hu => ?_) ?_ (by unfold maxLen; omega) (by omega) (by simp; omega) (fun v' w' h1 h2 _ => ?_)
  · rw [Addr.add_mid, (Row.fresh W tNd (ndC n vi).toArray).cell]
    simpa using hu
  · intro u hu
    simp only [ndC, List.mem_cons, List.not_mem_nil, or_false] at hu
    rcases hu with rfl | rfl | rfl
    · rfl
    · exact hvi
    · rfl
  · have hg := grownBy_back _ h2
    refine h v' w' ?_ (hb.grown hg hbase fun k hk => (World.ownsRow.lt hown k hk).1)
    unfold NdR
    rw [List.length_append, List.flatMap_append]
    exact h1
theorem wpList_pushN {ops : Array Oper} {rest : List Oper} {o : Oper} {a : Act} {Q : Exit → Act → World → Prop} {W : World} (hgd : o.guard = none) (s x : Operand)
    (ho : o.op = .call { callee := .builtin .append, args := #[s, x], argTypes := #[tNds, tNds] })
    (B : Nat) (w0 : World) (v vi : Value) (V : List (Nd × Value)) (n : Nd) (cs : Array Value) (hs : a.eval s = v) (hx : a.eval x = .slice (some ⟨W.heap.size, 0, none⟩) 1 1) (hc : cs = (ndC n vi).toArray)
    (hown : NdR W B v V) (hvi : vi.oneCell' = true) (hlen : V.length + 1 ≤ 1000000000) (hb : Below B w0 W) (hbase : B ≤ W.heap.size)
    (h : ∀ v' w', NdR w' B v' (V ++ [(n, vi)]) → Below B w0 w' → wpList Try.prog ops Q rest (a.put o.dst v') w') : wpList Try.prog ops Q (o :: rest) a (W.alloc (.cells cs tNd)) :=
  wpList_plain hgd fun _ hK => wp_pushN s x ho B w0 v vi V n cs hs hx hc hown hvi hlen hb hbase fun v' w' h1 h2 => hK _ _ (h v' w' h1 h2)
theorem owt_moved {w w' : World} {B : Nat} {v : Value} {l : List Bs} (h : OwT w B tId v l) (hb : ∀ g, v.ownBlock = some g → w'.heap[g]? = w.heap[g]?) : OwT w' B tId v l := by
  refine ⟨h.1, ?_⟩
  rcases h.2 with k | ⟨g, cap, cur, hv, k1, k2, k3⟩
  · exact .inl k
  · exact .inr ⟨g, cap, cur, hv, k1, (hb g (by rw [hv]; rfl)).trans k2, k3⟩
/-- a row of texts stays where a cell turns that held none -/
theorem vs_put {w : World} {P : Nat → Prop} {A : Option Addr} {c : Nat} {l : List Bs} (h : Vs w P A c (texts l)) {p : Addr} {u0 : Value} (h0 : w.cell? p = some u0) (hn : ∀ t, u0 ≠ .string t) (u : Value) : Vs (w.setCell p u) P A c (texts l) :=
  ⟨h.1, fun hl => by
    obtain ⟨b, o, e, hp, hc⟩ := h.2 hl
    refine ⟨b, o, e, hp, fun j v hj => ?_⟩
    have hv := hc j v hj
    by_cases hpe : p = ⟨b, o + j, none⟩
    · subst hpe
      rw [h0] at hv
      injection hv with hv
      subst hv
      have hjl := (List.getElem?_eq_some_iff.1 hj).1
      rw [texts_len] at hjl
      rw [texts_at l j hjl] at hj
      injection hj with hj
      exact absurd hj.symm (hn _)
    · rw [World.cell?_setCell_other _ _ _ _ hpe]; exact hv⟩
/-- the graph takes another row of nodes -/
theorem RdIn.take {w : World} {S S' : Nat → Prop} {g : Nat} {D : List Nd} (h : RdIn w S g D) {v : Value} {V : List (Nd × Value)} {B : Nat} (hv : NdR w B v V) (hi : ∀ p ∈ V, ∃ A c, p.2 = .slice A p.1.ps.length c ∧ Vs w S' A c (texts p.1.ps)) (hS : ∀ k, S k → S' k)
    (hb : ∀ b, v.ownBlock = some b → S' b ∧ b ≠ g) (hl : ∀ k, S' k → k < w.heap.size) : RdIn (w.setCell ⟨g, 0, none⟩ v) S' g (V.map (·.1)) := by
  obtain ⟨v0, V0, _, hr, hg, ho, _, _, _⟩ := h
  have h0 : w.cell? ⟨g, 0, none⟩ = some v0 := hr.cell 0
  have hn : ∀ t, v0 ≠ .string t := by
    rcases ho.2 with ⟨rfl, _⟩ | ⟨_, _, _, rfl, _⟩ <;> exact fun t e => by cases e
  refine ⟨v, V, rfl, hr.put 0 v, hS g hg, ?_, fun b hk => (hb b hk).1, fun p hp => ?_, fun k hk => by have := hl k hk; simpa [World.setCell] using this⟩
  · have := hv.move (w' := w.setCell ⟨g, 0, none⟩ v) fun b hk => Below.heap_setCell w ⟨g, 0, none⟩ v b (hb b hk).2
    rw [List.length_map]
    exact ⟨this.1, this.2.imp id fun ⟨g, cap, cur, hv', h1, h2⟩ => ⟨g, cap, cur, hv', Nat.zero_le _, h2⟩⟩
  · obtain ⟨A, c, e, k⟩ := hi p hp
    exact ⟨A, c, e, vs_put k h0 hn v⟩
theorem flat_set : ∀ (V : List (Nd × Value)) (i : Nat) (p : Nd × Value), V[i]? = some p → (V.modify i fun p => (⟨p.1.id, p.1.ps, true⟩, p.2)).flatMap ndP = (V.flatMap ndP).set (3 * i + 2) (.bool true)
  | [], i, p, h => by cases h
  | x :: V, 0, p, _ => by
    rw [List.modify_zero_cons, List.flatMap_cons, List.flatMap_cons]
    rfl
  | x :: V, i + 1, p, h => by
    rw [List.modify_succ_cons, List.flatMap_cons, List.flatMap_cons, flat_set V i p (by simpa using h), List.set_append_right _ _ (by rw [ndP_len]; omega), ndP_len, show 3 * (i + 1) + 2 - 3 = 3 * i + 2 by omega]
/-- who waited doesn't any more -/
theorem RdIn.turn {w : World} {S : Nat → Prop} {g : Nat} {D : List Nd} (h : RdIn w S g D) {i : Nat} {n : Nd} (hi : D[i]? = some n) {b N c : Nat} (hg0 : w.cell? ⟨g, 0, none⟩ = some (.slice (some ⟨b, 0, none⟩) N c)) : RdIn (w.setCell ⟨b, i * 3 + 2, none⟩ (.bool true)) S g (turnOn D i) ∧ S b ∧ w.frozen? ⟨b, i * 3 + 2, none⟩ = false := by
  obtain ⟨A, c0, k0, hrd⟩ := h.rd
  rw [hg0] at k0
  injection k0 with k0
  injection k0 with e1 e2 e3
  obtain ⟨b', _, _, e4, _, _, k2, _⟩ := hrd i n hi
  rw [← e1] at e4
  injection e4 with e4
  injection e4 with e4 _ _
  subst e4
  obtain ⟨v, V, rfl, hr, hg, ho, hob, hin, hlt⟩ := h
  have hvv : v = .slice (some ⟨b, 0, none⟩) N c := by
    have := hr.cell 0
    rw [hg0] at this
    injection this with this
    exact this.symm
  subst hvv
  have hSb := hob b rfl
  have hpi : ∃ p, V[i]? = some p := by
    rw [List.getElem?_map] at hi
    cases hp : V[i]? with
    | none => rw [hp] at hi; cases hi
    | some p => exact ⟨p, rfl⟩
  obtain ⟨p, hp⟩ := hpi
  have hne : b ≠ g := fun e => by
    rcases ho.2 with ⟨e1, _⟩ | ⟨b2, cap, cur, hv2, _, hgg, _⟩
    · cases e1
    · injection hv2 with q1 _ _
      injection q1 with q1
      injection q1 with q1 _ _
      subst q1
      subst e
      have := hr.symm.trans hgg
      simp [tRd, tNd] at this
  have e : turnOn (V.map (·.1)) i = (V.modify i fun p => (⟨p.1.id, p.1.ps, true⟩, p.2)).map (·.1) := by
    unfold turnOn
    apply List.ext_getElem?
    intro j
    rw [List.getElem?_modify, List.getElem?_map, List.getElem?_map, List.getElem?_modify]
    split <;> cases V[j]? <;> rfl
  refine ⟨⟨.slice (some ⟨b, 0, none⟩) N c, V.modify i fun p => (⟨p.1.id, p.1.ps, true⟩, p.2), e.symm, hr.far (p := ⟨b, i * 3 + 2, none⟩) (fun e => hne e.symm) _, hg, ?_, hob, fun q hq => ?_, fun k hk => by have := hlt k hk; simpa [World.setCell] using this⟩, hSb, ?_⟩
  · rw [flat_set V i p hp, turnOn_len, List.length_map]
    refine ⟨by rw [List.length_set]; have := ho.1; rwa [List.length_map] at this, ?_⟩
    rcases ho.2 with ⟨e1, _⟩ | ⟨b2, cap, cur, hv2, h1, hgg, h3, h4, h5, h6⟩
    · cases e1
    · injection hv2 with q1 q2 q3
      injection q1 with q1
      injection q1 with q1 _ _
      subst q1
      rw [List.length_map] at q2 h3 h6
      refine .inr ⟨b, cap, cur.setIfInBounds (i * 3 + 2) (.bool true), by rw [q2, q3], h1, ?_, h3, h4, by simpa using h5, ?_⟩
      · rw [Go.Sort.setCell_eq]
        show (w.heap.modify b _)[b]? = _
        rw [Array.getElem?_modify, if_pos rfl, hgg]
        rfl
      · rw [Array.toList_setIfInBounds, ← h6, List.take_set, Nat.mul_comm 3 i]
  · obtain ⟨j, hj⟩ := List.mem_iff_getElem?.1 hq
    rw [List.getElem?_modify] at hj
    have key : ∀ q0 : Nd × Value, V[j]? = some q0 → ∃ A c, q0.2 = .slice A q0.1.ps.length c ∧ Vs (w.setCell ⟨b, i * 3 + 2, none⟩ (.bool true)) S A c (texts q0.1.ps) := fun q0 hq0 => by
      obtain ⟨A, c, e, k⟩ := hin q0 (List.mem_of_getElem? hq0)
      exact ⟨A, c, e, vs_put k k2 (fun t e => by cases e) _⟩
    cases hq0 : V[j]? with
    | none => rw [hq0] at hj; split at hj <;> cases hj
    | some q0 =>
      rw [hq0] at hj
      obtain ⟨A, c, e, k⟩ := key q0 hq0
      split at hj
      · injection hj with hj
        rw [← hj]
        exact ⟨A, c, e, k⟩
      · injection hj with hj
        rw [← hj]
        exact ⟨A, c, e, k⟩
  · rcases ho.2 with ⟨e1, _⟩ | ⟨b2, cap, cur, hv2, _, hgg, _⟩
    · cases e1
    · injection hv2 with q1 _ _
      injection q1 with q1
      injection q1 with q1 _ _
      subst q1
      simp [World.frozen?, hgg]
end Go.Proofs.Ytplmcpdlommmaaa.Dq
