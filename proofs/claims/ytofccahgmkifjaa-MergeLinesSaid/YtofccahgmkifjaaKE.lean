/-
  append of edits onto edits.
-/
import Derived.Test.YtofccahgmkifjaaQ4
namespace Go.Proofs.Ytofccahgmkifjaa.Ke
open Go Go.RowKit Kt Lw Df

theorem run_append_nothingE {P : Program} {w : World} {t ty e : TypeId} {i : TypeInfo} (ht : P.underlying t = some (.slice e)) (hi : P.info? e = some i) {B size : Nat}
    {v : Value} {n : Nat} {xs : List Value} (hown : w.ownsRow B e size v n xs) (c : Nat) : (Builtin.append_ #[t, t] ty #[v, .slice none 0 c]).run P w = .ok v w := by
  rcases hown.2 with ⟨rfl, rfl⟩ | ⟨g, cap, cur, rfl, _, _, hnc, _⟩
  · simp [Builtin.append_, run_underlying ht, sizeOf, typeInfo, hi, Builtin.lenOf, Builtin.firstCells]
  · simp [Builtin.append_, run_underlying ht, sizeOf, typeInfo, hi, Builtin.lenOf, Builtin.firstCells, hnc, storeCells]
theorem pairs_one {w : World} {B : Nat} (V : List (Ed × Value)) (h : ∀ p ∈ V, OwT w B tS p.2 p.1.ins) : ∀ u ∈ V.flatMap pairC, u.oneCell' = true := by
  intro u hu
  obtain ⟨p, hp, hu⟩ := List.mem_flatMap.1 hu
  simp only [pairC, edC, List.mem_cons, List.not_mem_nil, or_false] at hu
  rcases hu with rfl | rfl | rfl
  · rfl
  · rfl
  · exact OwT.one (h p hp)
/-- append(l, edits..), both of the call's own -/
theorem wp_catE {o : Oper} {a : Act} {K : Act → World → Prop} {Q : Exit → Act → World → Prop} {W : World} (s x : Operand)
    (ho : o.op = .call { callee := .builtin .append, args := #[s, x], argTypes := #[50, 50] })
    (B : Nat) (w0 : World) (v u : Value) (L M : List Ed) (hs : a.eval s = v) (hx : a.eval x = u)
    (hown : OwE W B v L) (hu : OwE W B u M) (hlen : L.length + M.length ≤ 1000000000) (hb : Below B w0 W) (hbase : B ≤ W.heap.size)
    (h : ∀ v' w', OwE w' B v' (L ++ M) → Below B w0 w' → W.grownBy w' v.ownBlock → K (a.put o.dst v') w') : o.wp Try.prog a W K Q := by
  obtain ⟨i0, hi0, hz0, hz1, hz2⟩ := info_parts infoEd
  obtain ⟨V, hV, hr, hi⟩ := hown
  obtain ⟨V2, hV2, hr2, hi2⟩ := hu
  rcases hr2.2 with ⟨rfl, h0⟩ | ⟨g2, cap2, cur2, rfl, hB2, hg2, hnc2, hcm2, hsz2, ht2⟩
  · have hM : M = [] := List.eq_nil_of_length_eq_zero h0
    subst hM
    have hrun := run_append_nothingE (P := Try.prog) (ty := o.type) Try.underlying50 hi0 hr 0
    unfold Oper.wp execOp
    simp only [ho, resolve, invoke, builtin, Sem.run_bind, Sem.run_pure, Result.andThen_ok, List.map_toArray, List.map_cons, List.map_nil, hs, hx, hrun]
    exact h v W (by rw [List.append_nil]; exact ⟨V, hV, hr, hi⟩) hb (World.grownBy.refl _ _)
  · have hl2 : (V2.flatMap pairC).length = M.length * 3 := by rw [flat_len pairC 3 pairC_len, ← hV2, List.length_map]
    refine wp_append_own _ s x 50 ho B tE i0 (.agg #[.int .i64 0, .int .i64 0, .slice none 0 0]) 3 40 Try.underlying50 hi0 hz0 hz1 hz2 rfl (by omega) v L.length (V.flatMap pairC) hs hr
      ⟨g2, 0, none⟩ M.length cap2 (V2.flatMap pairC) hx hl2 (fun j u hu => ?_) (pairs_one V2 hi2) (by unfold maxLen; omega) (by omega) hbase (fun v' w' h1 h2 _ => ?_)
    · have hj : j < M.length * 3 := by have := (List.getElem?_eq_some_iff.1 hu).1; rwa [hl2] at this
      rw [Addr.add_mid, Nat.zero_add, World.ownsRow.cellAt (cap := cap2) hr2 j hj]
      exact hu
    · have key : ∀ (y : Value) (l : Ls), OwT W B tS y l → OwT w' B tS y l := by
        intro y l hy
        refine World.ownsRow.kept hy h2 ?_
        rcases hy.2 with ⟨rfl, _⟩ | ⟨g, cap, cur, rfl, _, hgg, _⟩
        · exact .inl rfl
        · right
          intro he
          rcases hr.2 with ⟨rfl, _⟩ | ⟨g', cap', cur', rfl, _, hgg', _⟩
          · cases he
          · simp only [Value.ownBlock, Option.some.injEq] at he
            subst he
            rw [hgg] at hgg'
            simp [tS, tE] at hgg'
      refine h v' w' ⟨V ++ V2, by simp [hV, hV2], ?_, fun p hp => ?_⟩ (hb.grown h2 hbase fun k hk => (World.ownsRow.lt hr k hk).1) h2
      · rw [List.flatMap_append, List.length_append]
        exact h1
      · rcases List.mem_append.1 hp with hp | hp
        · exact key _ _ (hi p hp)
        · exact key _ _ (hi2 p hp)
theorem wpList_catE {ops : Array Oper} {rest : List Oper} {o : Oper} {a : Act} {Q : Exit → Act → World → Prop} {W : World} (hgd : o.guard = none) (s x : Operand)
    (ho : o.op = .call { callee := .builtin .append, args := #[s, x], argTypes := #[50, 50] })
    (B : Nat) (w0 : World) (v u : Value) (L M : List Ed) (hs : a.eval s = v) (hx : a.eval x = u)
    (hown : OwE W B v L) (hu : OwE W B u M) (hlen : L.length + M.length ≤ 1000000000) (hb : Below B w0 W) (hbase : B ≤ W.heap.size)
    (h : ∀ v' w', OwE w' B v' (L ++ M) → Below B w0 w' → W.grownBy w' v.ownBlock → wpList Try.prog ops Q rest (a.put o.dst v') w') : wpList Try.prog ops Q (o :: rest) a W :=
  wpList_plain hgd fun _ hK => wp_catE s x ho B w0 v u L M hs hx hown hu hlen hb hbase fun v' w' h1 h2 h3 => hK _ _ (h v' w' h1 h2 h3)
end Go.Proofs.Ytofccahgmkifjaa.Ke
