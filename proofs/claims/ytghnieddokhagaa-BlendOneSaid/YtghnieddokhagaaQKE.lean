/-
  append of edits onto edits.
-/
import Derived.Test.YtghnieddokhagaaQEE
import Derived.Test.YtghnieddokhagaaQEG
import Derived.Test.YtghnieddokhagaaQJS
import Derived.Test.YtghnieddokhagaaQEK
namespace Go.Proofs.Ytghnieddokhagaa.Ke
open Go Go.RowKit Kt Lw Df

theorem run_append_nothingE {P : Program} {w : World} {t ty e : TypeId} {i : TypeInfo} (ht : P.underlying t = some (.slice e)) (hi : P.info? e = some i) {B size : Nat}
    {v : Value} {n : Nat} {xs : List Value} (hown : w.ownsRow B e size v n xs) (c : Nat) : (Builtin.append_ #[t, t] ty #[v, .slice none 0 c]).run P w = .ok v w := by
  rcases hown.2 with ⟨rfl, rfl⟩ | ⟨g, cap, cur, rfl, _, _, hnc, _⟩
  · simp [Builtin.append_, run_underlying ht, sizeOf, typeInfo, hi, Builtin.lenOf, Builtin.firstCells]
  · simp [Builtin.append_, run_underlying ht, sizeOf, typeInfo, hi, Builtin.lenOf, Builtin.firstCells, hnc, storeCells]
theorem pairs_one {w : World} {B : Nat} (V : List (Ed × Value)) (h : ∀ p ∈ V, OwT w B tS p.2 p.1.ins) : ∀ u ∈ V.flatMap pairC, u.oneCell' = true := by
  intro u hu
  obtain ⟨p, hp, hu⟩ := List.mem_flatMap.1 hu
  simp only [pairC, edC, List.mem_cons, List.not_mem_nil, or_false] at hu
  rcases hu with rfl | rfl | rfl
  · rfl
  · rfl
  · exact OwT.one (h p hp)
/-- append(l, edits..), both of the call's own -/
theorem wp_catE {o : Oper} {a : Act} {K : Act → World → Prop} {Q : Exit → Act → World → Prop} {W : World} (s x : Operand)
    (ho : o.op = .call { callee := .builtin .append, args := #[s, x], argTypes := #[85, 85] })
    (B : Nat) (w0 : World) (v u : Value) (L M : List Ed) (hs : a.eval s = v) (hx : a.eval x = u)
    (hown : OwE W B v L) (hu : OwE W B u M) (hlen : L.length + M.length ≤ 1000000000) (hb : Below B w0 W) (hbase : B ≤ W.heap.size)
    (h : ∀ v' w', OwE w' B v' (L ++ M) → Below B w0 w' → W.grownBy w' v.ownBlock → K (a.put o.dst v') w') : o.wp Try.prog a W K Q := by
  obtain ⟨i0, hi0, hz0, hz1, hz2⟩ := info_parts infoEd
  obtain ⟨V, hV, hr, hi⟩ := hown
  obtain ⟨V2, hV2, hr2, hi2⟩ := hu
  rcases hr2.2 with ⟨rfl, h0⟩ | ⟨g2, cap2, cur2, rfl, hB2, hg2, hnc2, hcm2, hsz2, ht2⟩
  · have hM : M = [] := List.eq_nil_of_length_eq_zero h0
    subst hM
    have hrun := run_append_nothingE (P := Try.prog) (ty := o.type) Try.underlying85 hi0 hr 0
    unfold Oper.wp execOp
    simp only [ho, resolve, invoke, builtin, Sem.run_bind, Sem.run_pure, Result.andThen_ok, List.map_toArray, List.map_cons, List.map_nil, hs, hx, hrun]
    exact h v W (by rw [List.append_nil]; exact ⟨V, hV, hr, hi⟩) hb (World.grownBy.refl _ _)
  · have hl2 : (V2.flatMap pairC).length = M.length * 3 := by rw [flat_len pairC 3 pairC_len, ← hV2, List.length_map]
    refine wp_append_own _ s x 85 ho B tE i0 (.agg #[.int .i64 0, .int .i64 0, .slice none 0 0]) 3 40 Try.underlying85 hi0 hz0 hz1 hz2 rfl (by omega) v L.length (V.flatMap pairC) hs hr
      ⟨g2, 0, none⟩ M.length cap2 (V2.flatMap pairC) hx hl2 (fun j u hu => ?_) (pairs_one V2 hi2) (by unfold maxLen; omega) (by omega) hbase (fun v' w' h1 h2 _ => ?_)
    · have hj : j < M.length * 3 := by have := (List.getElem?_eq_some_iff.1 hu).1; rwa [hl2] at this
      rw [Addr.add_mid, Nat.zero_add, World.ownsRow.cellAt (cap := cap2) hr2 j hj]
      exact hu
    · have key : ∀ (y : Value) (l : Ls), OwT W B tS y l → OwT w' B tS y l := by
        intro y l hy
        refine World.ownsRow.kept hy h2 ?_
        rcases hy.2 with ⟨rfl, _⟩ | ⟨g, cap, cur, rfl, _, hgg, _⟩
        · exact .inl rfl
        · right
          intro he
          rcases hr.2 with ⟨rfl, _⟩ | ⟨g', cap', cur', rfl, _, hgg', _⟩
          · cases he
          · simp only [Value.ownBlock, Option.some.injEq] at he
            subst he
            rw [hgg] at hgg'
            simp [tS, tE] at hgg'
      refine h v' w' ⟨V ++ V2, by simp [hV, hV2], ?_, fun p hp => ?_⟩ (hb.grown h2 hbase fun k hk => (World.ownsRow.lt hr k hk).1) h2
      · rw [List.flatMap_append, List.length_append]
        exact h1
      · rcases List.mem_append.1 hp with hp | hp
        · exact key _ _ (hi p hp)
        · exact key _ _ (hi2 p hp)
theorem wpList_catE {ops : Array Oper} {rest : List Oper} {o : Oper} {a : Act} {Q : Exit → Act → World → Prop} {W : World} (hgd : o.guard = none) (s x : Operand)
    (ho : o.op = .call { callee := .builtin .append, args := #[s, x], argTypes := #[85, 85] })
    (B : Nat) (w0 : World) (v u : Value) (L M : List Ed) (hs : a.eval s = v) (hx : a.eval x = u)
    (hown : OwE W B v L) (hu : OwE W B u M) (hlen : L.length + M.length ≤ 1000000000) (hb : Below B w0 W) (hbase : B ≤ W.heap.size)
    (h : ∀ v' w', OwE w' B v' (L ++ M) → Below B w0 w' → W.grownBy w' v.ownBlock → wpList Try.prog ops Q rest (a.put o.dst v') w') : wpList Try.prog ops Q (o :: rest) a W :=
  wpList_plain hgd fun _ hK => wp_catE s x ho B w0 v u L M hs hx hown hu hlen hb hbase fun v' w' h1 h2 h3 => hK _ _ (h v' w' h1 h2 h3)
end Go.Proofs.Ytghnieddokhagaa.Ke
namespace Go.Proofs.Ytghnieddokhagaa.Df
open Go Go.RowKit Kt Lw

def OwL (w : World) (B g cap : Nat) (vi : Value) (O : List Ed) (e : Ed) : Prop :=
  ∃ V : List (Ed × Value), V.map (·.1) = O ∧ w.ownsRow B tE 3 (.slice (some ⟨g, 0, none⟩) (O.length + 1) cap) (O.length + 1) (V.flatMap pairC ++ edC e vi) ∧ (∀ p ∈ V, OwT w B tS p.2 p.1.ins) ∧ OwT w B tS vi e.ins ∧
    ∀ p ∈ V, ∀ b, vi.ownBlock = some b → p.2.ownBlock ≠ some b
theorem row_own {w : World} {B g cap n : Nat} {xs : List Value} {u : Value} {l : Ls} (h : w.ownsRow B tE 3 (.slice (some ⟨g, 0, none⟩) n cap) n xs) (hu : OwT w B tS u l) : u.ownBlock ≠ some g := by
  intro hee
  rcases hu.2 with ⟨rfl, _⟩ | ⟨g', cap', cur', rfl, _, hgg', _⟩
  · cases hee
  · simp only [Value.ownBlock, Option.some.injEq] at hee
    subst hee
    rcases h.2 with ⟨h', _⟩ | ⟨g2, cap2, cur2, h', _, hgg2, _⟩
    · cases h'
    · simp only [Value.slice.injEq, Option.some.injEq, Addr.mk.injEq, and_true, true_and] at h'
      obtain ⟨rfl, _⟩ := h'
      rw [hgg'] at hgg2
      simp [tS, tE] at hgg2
section
variable {w w' : World} {B g cap : Nat} {vi : Value} {O : List Ed} {e : Ed}
theorem OwL.owe (h : OwL w B g cap vi O e) : OwE w B (.slice (some ⟨g, 0, none⟩) (O.length + 1) cap) (O ++ [e]) := by
  obtain ⟨V, hV, hr, hi, hv, _⟩ := h
  refine ⟨V ++ [(e, vi)], by simp [hV], ?_, fun p hp => ?_⟩
  · rw [List.flatMap_append, List.length_append]
    exact hr
  · rcases List.mem_append.1 hp with hp | hp
    · exact hi p hp
    · obtain rfl : p = (e, vi) := by simpa using hp
      exact hv
theorem OwL.flat (V : List (Ed × Value)) (hV : V.map (·.1) = O) : (V.flatMap pairC).length = O.length * 3 := by
  rw [flat_len pairC 3 pairC_len, ← hV, List.length_map]
theorem OwL.cell (h : OwL w B g cap vi O e) {N : Nat} (hN : N = O.length) (k : Nat) (hk : k < 3) : w.cell? ⟨g, N * 3 + k, none⟩ = (edC e vi)[k]? ∧ w.frozen? ⟨g, N * 3 + k, none⟩ = false := by
  subst hN
  obtain ⟨V, hV, hr, hi, hv, _⟩ := h
  refine ⟨?_, World.ownsRow.frozenAt hr _⟩
  rw [World.ownsRow.cellAt hr _ (by omega), List.getElem?_append_right (by rw [OwL.flat V hV]; omega), OwL.flat V hV, Nat.add_sub_cancel_left]
theorem OwL.lt (h : OwL w B g cap vi O e) : B ≤ g ∧ g < w.heap.size ∧ O.length + 1 ≤ cap := by
  obtain ⟨V, hV, hr, hi, hv, _⟩ := h
  have h2 := World.ownsRow.lt hr g rfl
  refine ⟨h2.1, h2.2, ?_⟩
  rcases hr.2 with ⟨h', _⟩ | ⟨g2, cap2, cur2, h', _, _, h3, _⟩
  · cases h'
  · simp only [Value.slice.injEq, Option.some.injEq, Addr.mk.injEq, and_true, true_and] at h'
    obtain ⟨_, rfl⟩ := h'
    exact h3
theorem OwL.keep (h : OwL w B g cap vi O e) (hb : Below w.heap.size w w') : OwL w' B g cap vi O e := by
  obtain ⟨V, hV, hr, hi, hv, hd⟩ := h
  refine ⟨V, hV, ⟨hr.1, ?_⟩, fun p hp => (hi p hp).kept hb, hv.kept hb, hd⟩
  rcases hr.2 with ⟨h1, h2⟩ | ⟨g, cap, cur, hv', h1, h2, h3⟩
  · exact .inl ⟨h1, h2⟩
  · exact .inr ⟨g, cap, cur, hv', h1, (hb.block g (Array.getElem?_eq_some_iff.1 h2).1).trans h2, h3⟩
theorem OwL.setDel (h : OwL w B g cap vi O e) {N : Nat} (hN : N = O.length) (z : Int) : OwL (w.setCell ⟨g, N * 3 + 1, none⟩ (.int .i64 z)) B g cap vi O ⟨e.pos, z, e.ins⟩ := by
  subst hN
  obtain ⟨V, hV, hr, hi, hv, hd⟩ := h
  obtain ⟨hst, hg⟩ := World.ownsRow.stored hr (O.length * 3 + 1) (.int .i64 z)
  refine ⟨V, hV, ?_, fun p hp => World.ownsRow.kept (hi p hp) hg (.inr (row_own hr (hi p hp))), World.ownsRow.kept hv hg (.inr (row_own hr hv)), hd⟩
  rw [List.set_append_right _ _ (by rw [OwL.flat V hV]; omega), OwL.flat V hV, Nat.add_sub_cancel_left] at hst
  exact hst
theorem OwL.setIns (h : OwL w B g cap vi O e) {N : Nat} (hN : N = O.length) (hg1 : w.grownBy w' vi.ownBlock) {vi' : Value} {l : Ls} (hv' : OwT w' B tS vi' l) (hbl : vi'.ownBlock = vi.ownBlock ∨ ∃ b, vi'.ownBlock = some b ∧ w.heap.size ≤ b) :
    OwL (w'.setCell ⟨g, N * 3 + 2, none⟩ vi') B g cap vi' O ⟨e.pos, e.del, l⟩ := by
  subst hN
  obtain ⟨V, hV, hr, hi, hv, hd⟩ := h
  have hne : ∀ p ∈ V, p.2.ownBlock = none ∨ p.2.ownBlock ≠ vi.ownBlock := by
    intro p hp
    cases hb : vi.ownBlock with
    | none =>
      cases hb2 : p.2.ownBlock with
      | none => exact .inl rfl
      | some b => exact .inr (by simp)
    | some b => exact .inr (hd p hp b hb)
  have hr1 := World.ownsRow.kept hr hg1 (.inr (fun h => row_own hr hv h.symm))
  have hi1 : ∀ p ∈ V, OwT w' B tS p.2 p.1.ins := fun p hp => World.ownsRow.kept (hi p hp) hg1 (hne p hp)
  obtain ⟨hst, hg⟩ := World.ownsRow.stored hr1 (O.length * 3 + 2) vi'
  refine ⟨V, hV, ?_, fun p hp => World.ownsRow.kept (hi1 p hp) hg (.inr (row_own hr1 (hi1 p hp))), World.ownsRow.kept hv' hg (.inr (row_own hr1 hv')), fun p hp b hb => ?_⟩
  · rw [List.set_append_right _ _ (by rw [OwL.flat V hV]; omega), OwL.flat V hV, Nat.add_sub_cancel_left] at hst
    exact hst
  · rcases hbl with h1 | ⟨b', h1, h2⟩
    · exact hd p hp b (h1 ▸ hb)
    · intro h3
      have := (World.ownsRow.lt (hi p hp) b h3).2
      rw [h1] at hb
      injection hb with hb
      omega
end
section
variable {w w' : World} {B g cap : Nat} {vi : Value} {O : List Ed} {e : Ed}
theorem OwL.grown (h : OwL w B g cap vi O e) {N : Nat} (hN : N = O.length) (hg1 : w.grownBy w' vi.ownBlock) (k : Nat) (hk : k < 3) : w'.cell? ⟨g, N * 3 + k, none⟩ = (edC e vi)[k]? ∧ w'.frozen? ⟨g, N * 3 + k, none⟩ = false := by
  subst hN
  obtain ⟨V, hV, hr, hi, hv, hd⟩ := h
  have hr1 := World.ownsRow.kept hr hg1 (.inr (fun h => row_own hr hv h.symm))
  refine ⟨?_, World.ownsRow.frozenAt hr1 _⟩
  rw [World.ownsRow.cellAt hr1 _ (by omega), List.getElem?_append_right (by rw [OwL.flat V hV]; omega), OwL.flat V hV, Nat.add_sub_cancel_left]
theorem OwL.drewN (h : OwL w B g cap vi O e) (n : Nat) : OwL (w.drewN n) B g cap vi O e := h
theorem OwL.drew (h : OwL w B g cap vi O e) : OwL w.drew B g cap vi O e := h
theorem OwL.ins (h : OwL w B g cap vi O e) : OwT w B tS vi e.ins := by
  obtain ⟨V, hV, hr, hi, hv, hd⟩ := h
  exact hv
end
/-- an edit is opened -/
theorem wpList_pushL {ops : Array Oper} {rest : List Oper} {o : Oper} {a : Act} {Q : Exit → Act → World → Prop} {W : World} (hgd : o.guard = none) (s x : Operand)
    (ho : o.op = .call { callee := .builtin .append, args := #[s, x], argTypes := #[85, 85] })
    (B : Nat) (w0 : World) (v : Value) (L : List Ed) (z : Int) (cs : Array Value) (hs : a.eval s = v) (hx : a.eval x = .slice (some ⟨W.heap.size, 0, none⟩) 1 1) (hc : cs = (edC ⟨z, 0, []⟩ (.slice none 0 0)).toArray)
    (hown : OwE W B v L) (M : Nat) (hM : M = L.length + 1) (hlen : L.length + 1 ≤ 1000000000) (hb : Below B w0 W) (hbase : B ≤ W.heap.size)
    (h : ∀ g cap w', OwL w' B g cap (.slice none 0 0) L ⟨z, 0, []⟩ → Below B w0 w' → wpList Try.prog ops Q rest (a.put o.dst (.slice (some ⟨g, 0, none⟩) M cap)) w') : wpList Try.prog ops Q (o :: rest) a (W.alloc (.cells cs tE)) := by
  subst hM
  refine wpList_plain hgd fun _ hK => ?_
  obtain ⟨i0, hi0, hz0, hz1, hz2⟩ := info_parts infoEd
  subst hc
  obtain ⟨V, hV, hr, hi⟩ := hown
  refine wp_append_own _ s x 85 ho B tE i0 (.agg #[.int .i64 0, .int .i64 0, .slice none 0 0]) 3 40 Try.underlying85 hi0 hz0 hz1 hz2 rfl (by omega) v L.length (V.flatMap pairC) hs (World.ownsRow.alloc hr _)
    ⟨W.heap.size, 0, none⟩ 1 1 (edC ⟨z, 0, []⟩ (.slice none 0 0)) hx rfl (fun j u hu => ?_) ?_ (by unfold maxLen; omega) (by omega) (by simp; omega) (fun v' w' h1 h2 _ => ?_)
  · rw [Addr.add_mid, (Row.fresh W tE (edC ⟨z, 0, []⟩ (.slice none 0 0)).toArray).cell]
    simpa using hu
  · intro u hu
    simp only [edC, List.mem_cons, List.not_mem_nil, or_false] at hu
    rcases hu with rfl | rfl | rfl <;> rfl
  · have hg := grownBy_back _ h2
    have key : ∀ (u : Value) (l : Ls), OwT W B tS u l → OwT w' B tS u l := by
      intro u l hu
      refine World.ownsRow.kept hu hg ?_
      rcases hu.2 with ⟨rfl, _⟩ | ⟨g, cap, cur, rfl, _, hgg, _⟩
      · exact .inl rfl
      · right
        intro he
        rcases hr.2 with ⟨rfl, _⟩ | ⟨g', cap', cur', rfl, _, hgg', _⟩
        · cases he
        · simp only [Value.ownBlock, Option.some.injEq] at he
          subst he
          rw [hgg] at hgg'
          simp [tS, tE] at hgg'
    obtain ⟨g, cap, rfl⟩ : ∃ g cap, v' = .slice (some ⟨g, 0, none⟩) (L.length + 1) cap := by
      rcases h1.2 with ⟨_, h0⟩ | ⟨g, cap, cur, hv, _⟩
      · omega
      · exact ⟨g, cap, hv⟩
    exact hK _ _ (h g cap w' ⟨V, hV, h1, fun p hp => key _ _ (hi p hp), OwT.nil _ _ _, fun p hp b hb => by cases hb⟩ (hb.grown hg hbase fun k hk => (World.ownsRow.lt hr k hk).1))
end Go.Proofs.Ytghnieddokhagaa.Df
namespace Go.Proofs.Ytghnieddokhagaa.Df
open Go Go.RowKit Kt Lw Li

theorem right_len (n : Nat) : ∀ (L : List Ed) (last : Int), -1 ≤ last → right n last L = true → (L.length : Int) ≤ size L
  | [], _, _, _ => by simp [size]
  | e :: l, last, h1, hr => by
    obtain ⟨p, d, ep, ed, hpd, hlp, hne, hr'⟩ := right_head hr h1
    have := right_len n l _ (by omega) hr'
    rw [size, List.length_cons, ed]
    rcases hne with h | h
    · omega
    · have := List.length_pos_iff.2 h
      omega
/-- how large what is between is -/
theorem D_small (a b : Ls) (ha : a.length ≤ 100) (hb : b.length ≤ 100) : size (D a b) ≤ 200 ∧ (D a b).length ≤ 200 := by
  have h1 := D_size a b (Nat.le_trans (mul_le ha hb) (by omega))
  have h2 := right_len _ _ _ (by omega) (D_right a b)
  constructor <;> omega
theorem back_facts (a b : Ls) : play b 0 (turn a 0 (D a b)) = a ∧ right b.length (-1) (turn a 0 (D a b)) = true ∧ size (turn a 0 (D a b)) = size (D a b) := by
  have hr := D_right a b
  have h1 := play_turn a (D a b) 0 (-1) [] 0 0 (by omega) (by omega) hr rfl rfl
  have h2 := right_turn a (D a b) 0 (-1) 0 b.length (by omega) (by omega) hr (by rw [D_play]; simp)
  rw [List.nil_append, D_play, List.drop_zero] at h1
  exact ⟨h1, h2, size_turn a (D a b) (-1) 0 (by omega) hr⟩
end Go.Proofs.Ytghnieddokhagaa.Df
namespace Go.Proofs.Ytghnieddokhagaa.Df
open Go Go.RowKit Kt Lw Li

theorem flat_set : ∀ (V : List (Ed × Value)) (i : Nat) (e : Ed) (vi : Value) (p : Int), V[i]? = some (e, vi) → (V.set i (⟨p, e.del, e.ins⟩, vi)).flatMap pairC = (V.flatMap pairC).set (i * 3) (.int .i64 p)
  | [], i, e, vi, p, h => by simp at h
  | q :: V, 0, e, vi, p, h => by
    simp at h
    subst h
    rfl
  | q :: V, i + 1, e, vi, p, h => by
    rw [List.set_cons_succ, List.flatMap_cons, List.flatMap_cons, flat_set V i e vi p (by simpa using h), List.set_append_right _ _ (by rw [pairC_len]; omega), pairC_len]
    congr 2
    omega
theorem OwE.form {w : World} {B : Nat} {v : Value} {L : List Ed} (h : OwE w B v L) (hn : 0 < L.length) : ∃ g cap, v = .slice (some ⟨g, 0, none⟩) L.length cap ∧ B ≤ g := by
  obtain ⟨V, _, hr, _⟩ := h
  rcases hr.2 with ⟨_, h0⟩ | ⟨g, cap, cur, hv, hB, _⟩
  · omega
  · exact ⟨g, cap, hv, hB⟩
/-- an edit's place, turned where it lies -/
theorem OwE.turned {w : World} {B g cap i : Nat} {M : List Ed} {e : Ed} (h : OwE w B (.slice (some ⟨g, 0, none⟩) M.length cap) M) (he : M[i]? = some e) :
    (w.cell? ⟨g, i * 3, none⟩ = some (.int .i64 e.pos) ∧ w.frozen? ⟨g, i * 3, none⟩ = false) ∧ ∀ p : Int, OwE (w.setCell ⟨g, i * 3, none⟩ (.int .i64 p)) B (.slice (some ⟨g, 0, none⟩) M.length cap) (M.set i ⟨p, e.del, e.ins⟩) := by
  obtain ⟨V, hV, hr, hi⟩ := h
  have hil : i < M.length := (List.getElem?_eq_some_iff.1 he).1
  subst hV
  rw [List.getElem?_map] at he
  cases hp : V[i]? with
  | none => rw [hp] at he; cases he
  | some q =>
    rw [hp] at he
    simp at he
    obtain ⟨e', vi⟩ := q
    simp at he
    subst he
    rw [List.length_map] at hil hr ⊢
    refine ⟨⟨?_, World.ownsRow.frozenAt hr _⟩, fun p => ?_⟩
    · rw [World.ownsRow.cellAt hr (i * 3) (by omega), Nat.mul_comm, show 3 * i = 3 * i + 0 from rfl, flat_at pairC 3 pairC_len V i 0 _ hp (by omega)]
      rfl
    · obtain ⟨hst, hg⟩ := World.ownsRow.stored hr (i * 3) (.int .i64 p)
      refine ⟨V.set i (⟨p, e'.del, e'.ins⟩, vi), by rw [List.map_set], ?_, fun q hq => ?_⟩
      · rw [flat_set V i e' vi p hp, List.length_set, List.length_map]
        exact hst
      · have key : ∀ (u : Value) (l : Ls), OwT w B tS u l → OwT (w.setCell ⟨g, i * 3, none⟩ (.int .i64 p)) B tS u l := by
          intro u l hu
          refine World.ownsRow.kept hu hg ?_
          rcases hu.2 with ⟨rfl, _⟩ | ⟨g', cap', cur', rfl, _, hgg', _⟩
          · exact .inl rfl
          · right
            intro hee
            simp only [Value.ownBlock, Option.some.injEq] at hee
            subst hee
            rcases hr.2 with ⟨h', _⟩ | ⟨g2, cap2, cur2, h', _, hgg2, _⟩
            · cases h'
            · simp only [Value.slice.injEq, Option.some.injEq, Addr.mk.injEq, and_true, true_and] at h'
              obtain ⟨rfl, _⟩ := h'
              rw [hgg'] at hgg2
              simp [tS, tE] at hgg2
        rcases List.mem_or_eq_of_mem_set hq with hq | hq
        · exact key _ _ (hi q hq)
        · subst hq
          exact key _ _ (hi (e', vi) (List.mem_of_getElem? hp))
/-- the first i edits are back, the others are n further on -/
def Mi (L : List Ed) (n i : Nat) : List Ed := L.take i ++ (shift n L).drop i
theorem shift_len (n : Nat) (L : List Ed) : (shift n L).length = L.length := by simp [shift]
theorem Mi_len (L : List Ed) (n i : Nat) (h : i ≤ L.length) : (Mi L n i).length = L.length := by
  unfold Mi; rw [List.length_append, List.length_take, List.length_drop, shift_len]; omega
theorem Mi_at {L : List Ed} {n i : Nat} {e : Ed} (h : L[i]? = some e) : (Mi L n i)[i]? = some ⟨e.pos + n, e.del, e.ins⟩ := by
  have hi := (List.getElem?_eq_some_iff.1 h).1
  unfold Mi
  rw [List.getElem?_append_right (by rw [List.length_take]; omega), List.length_take, Nat.min_eq_left (by omega), Nat.sub_self, List.getElem?_drop, Nat.add_zero]
  unfold shift
  rw [List.getElem?_map, h]
  rfl
theorem Mi_next {L : List Ed} {n i : Nat} {e : Ed} (h : L[i]? = some e) : Mi L n (i + 1) = (Mi L n i).set i ⟨e.pos + n - n, e.del, e.ins⟩ := by
  have hi := (List.getElem?_eq_some_iff.1 h).1
  have he : (⟨e.pos + n - n, e.del, e.ins⟩ : Ed) = e := by
    rw [Int.add_sub_cancel]
  rw [he]
  unfold Mi
  rw [List.set_append_right _ _ (by rw [List.length_take]; omega), List.length_take, Nat.min_eq_left (by omega), Nat.sub_self, List.take_add_one, h,
    List.drop_eq_getElem_cons (show i < (shift n L).length by rw [shift_len]; exact hi), List.set_cons_zero]
  simp
theorem Mi_first (L : List Ed) (n : Nat) : Mi L n 0 = shift n L := by simp [Mi]
theorem Mi_last (L : List Ed) (n : Nat) : Mi L n L.length = L := by simp [Mi, shift_len]
theorem right_pos (n : Nat) : ∀ (L : List Ed) (last : Int), -1 ≤ last → right n last L = true → ∀ e ∈ L, 0 ≤ e.pos ∧ e.pos ≤ n ∧ e.ins.length ≤ 1000000000000 + e.ins.length
  | [], _, _, _, e, he => by cases he
  | a :: l, last, h1, hr, e, he => by
    obtain ⟨p, d, ep, ed, hpd, hlp, hne, hr'⟩ := right_head hr h1
    rcases List.mem_cons.1 he with rfl | he
    · rw [ep]; omega
    · exact right_pos n l _ (by omega) hr' e he
theorem size_mem : ∀ (L : List Ed) (e : Ed), e ∈ L → (e.ins.length : Int) ≤ size L
  | a :: l, e, he => by
    rw [size]
    have h0 := size_pos l
    rcases List.mem_cons.1 he with rfl | he
    · omega
    · have := size_mem l e he
      omega
theorem flat_snoc (l : Ls) (k : Nat) (h : k < l.length) : (l.take (k + 1)).flatten = (l.take k).flatten ++ l.getD k [] := by
  rw [List.take_succ_eq_append_getElem h, List.flatten_append]; simp [List.getElem?_eq_getElem h]
theorem flat_le (M : Nat) : ∀ l : Ls, (∀ s ∈ l, s.length ≤ M) → l.flatten.length ≤ l.length * M
  | [], _ => by simp
  | a :: l, h => by
    have := flat_le M l fun s hs => h s (by simp [hs])
    have := h a (by simp)
    rw [List.flatten_cons, List.length_append, List.length_cons, Nat.succ_mul]
    omega
theorem flat_mem : ∀ (l : Ls) (s : List UInt8), s ∈ l → s.length ≤ l.flatten.length
  | a :: l, s, h => by
    rw [List.flatten_cons, List.length_append]
    rcases List.mem_cons.1 h with rfl | h
    · omega
    · have := flat_mem l s h
      omega
end Go.Proofs.Ytghnieddokhagaa.Df
namespace Go.Proofs.Ytghnieddokhagaa.Df
open Go Go.RowKit Kt Lw Li

/-- the row behind i lines, as far as place k -/
def Lined (x y : Ls) (i k : Nat) (L : List Int) : Prop := ∀ j, j ≤ k → L.getD j 0 = (lcs (x.take i) (y.take j) : Nat)
theorem take_snoc (x : Ls) (i : Nat) (h : i < x.length) : x.take (i + 1) = x.take i ++ [x.getD i []] := by
  rw [List.take_succ_eq_append_getElem h]
  simp [List.getElem?_eq_getElem h]
theorem Lined.first (x y : Ls) (k N : Nat) : Lined x y 0 k (List.replicate N 0) := by
  intro j _
  rw [List.take_zero, lcs_nil_left, List.getD_eq_getElem?_getD, List.getElem?_replicate]
  split <;> rfl
theorem Lined.start (x y : Ls) (i N : Nat) : Lined x y i 0 (List.replicate N 0) := by
  intro j hj
  obtain rfl : j = 0 := by omega
  rw [List.take_zero, lcs_nil_right, List.getD_eq_getElem?_getD, List.getElem?_replicate]
  split <;> rfl
theorem lcs_step (x y : Ls) {i k : Nat} (hi : i < x.length) (hk : k < y.length) : lcs (x.take (i + 1)) (y.take (k + 1)) =
    if x.getD i [] = y.getD k [] then lcs (x.take i) (y.take k) + 1 else max (lcs (x.take (i + 1)) (y.take k)) (lcs (x.take i) (y.take (k + 1))) := by
  rw [take_snoc x i hi, take_snoc y k hk, lcs_snoc, ← take_snoc y k hk, ← take_snoc x i hi]
  split
  · rfl
  · exact Nat.max_comm _ _
theorem Lined.step {x y : Ls} {i k : Nat} {L : List Int} (h : Lined x y i k L) (hk : k + 1 < L.length) (z : Int) (hz : z = (lcs (x.take i) (y.take (k + 1)) : Nat)) : Lined x y i (k + 1) (L.set (k + 1) z) := by
  intro j hj
  rw [set_getD _ _ _ _ hk]
  split
  · rename_i e; rw [hz, e]
  · exact h j (by omega)
theorem set_set' (L : List Int) (k : Nat) (a b : Int) : (L.set k a).set k b = L.set k b := by simp

set_option maxHeartbeats 2000000 in
set_option maxRecDepth 100000 in
theorem common_any (x y : Ls) (A A' : Option Addr) (c c' : Nat) (P P' : Nat → Prop) (w : World) (hs : Vs w P A c (texts x)) (hs' : Vs w P' A' c' (texts y)) (hx : x.length ≤ 1000) (hy : y.length ≤ 1000) :
    Calls Try.prog 86 #[.slice A x.length c, .slice A' y.length c'] w fun e w' => e = .returned (.int .i64 (lcs x y : Nat)) ∧ Below w.heap.size w w' := by
  have Hs := hide hs.bound
  have Hs' := hide hs'.bound
  obtain ⟨m, hm⟩ : ∃ m, m = x.length := ⟨_, rfl⟩
  obtain ⟨n, hn⟩ : ∃ n, n = y.length := ⟨_, rfl⟩
  rw [← hm] at hx ⊢
  rw [← hn] at hy ⊢
  have Hm := hide hm
  have Hn := hide hn
  obtain ⟨W, hW⟩ : ∃ W, W = n + 1 := ⟨_, rfl⟩
  have hW' : (n : Int) + 1 = (W : Int) := by omega
  have HW := hide hW
  obtain ⟨C, hmake, hC⟩ := make_nums W (by omega)
  have HC := hide hC
  clear hs hs' hm hn hW hC
  go_enter Try.func86, Try.ntmps86
  go_wp2
  go_loopw [5, 6] (fun r vi wr => ∃ (i g : Nat) (L : List Int), i ≤ m ∧ vi = .int .i64 i ∧ r = .slice (some ⟨g, 0, none⟩) W W ∧ Nums wr w.heap.size g W L ∧ Lined x y i n L ∧ Below w.heap.size w wr) (fun _ vi _ => m - (intOf vi).toNat)
  case atStart => exact ⟨0, _, _, Nat.zero_le _, rfl, rfl, HC.out w _ (Nat.le_refl _), Lined.first x y n W, (Below.refl _ _).alloc (Nat.le_refl _) _⟩
  case round =>
    obtain ⟨i, g, L, hi, rfl, rfl, hnu, hli, hb⟩ := hrel
    have Hli := hide hli
    by_cases hi' : i < m
    · have Hmu := hide (HC.out wr w.heap.size hb.size)
      have Hnu := hide (hnu.kept ((Below.refl _ wr).alloc (Nat.le_refl _) (.cells C tI)))
      have Hb := hide (hb.alloc hb.size (.cells C tI))
      have Hgg := hide hnu.lt
      clear hnu hli hb
      go_wp2
      obtain ⟨g2, hg2⟩ : ∃ g2, g2 = wr.heap.size := ⟨_, rfl⟩
      obtain ⟨w2, hw2⟩ : ∃ w2, w2 = wr.alloc (.cells C tI) := ⟨_, rfl⟩
      rw [← hw2] at Hmu Hnu Hb ⊢
      rw [← hg2] at Hmu Hgg ⊢
      have Hgn := hide (show g ≠ g2 by have := Hgg.out; omega)
      clear hg2 hw2
      go_loopw [8] (fun vk w3 => ∃ (k : Nat) (L2 : List Int), k ≤ n ∧ vk = .int .i64 k ∧ Nums w3 w.heap.size g2 W L2 ∧ Lined x y (i + 1) k L2 ∧ Nums w3 w.heap.size g W L ∧ Below w.heap.size w w3) (fun vk _ => n - (intOf vk).toNat)
      case atStart => exact ⟨0, _, Nat.zero_le _, rfl, Hmu.out, Lined.start x y (i + 1) W, Hnu.out, Hb.out⟩
      case round =>
        obtain ⟨k, L2, hk, rfl, hmu, hli2, hnu, hb⟩ := hrel
        have Hmu2 := hide hmu
        have Hnu2 := hide hnu
        have Hli2 := hide hli2
        have Hb2 := hide hb
        have Hlen2 := hide hmu.len
        clear hmu hnu hli2 hb
        by_cases hk' : k < n
        · have Hst := hide (lcs_step x y (i := i) (k := k) (by have := Hm.out; omega) (by have := Hn.out; omega))
          have cu := Hmu2.out.cell (k := k) (by have := HW.out; omega)
          have cv := Hnu2.out.cell (k := k + 1) (by have := HW.out; omega)
          have ct := Hnu2.out.cell (k := k) (by have := HW.out; omega)
          have cn := Hmu2.out.cell (k := k + 1) (by have := HW.out; omega)
          rw [Hli2.out k (Nat.le_refl _)] at cu
          rw [Hli.out (k + 1) hk'] at cv
          rw [Hli.out k (by omega)] at ct
          have hu6 := lcs_le_right (x.take (i + 1)) (y.take k)
          have hv6 := lcs_le_right (x.take i) (y.take (k + 1))
          have ht6 := lcs_le_right (x.take i) (y.take k)
          have hl1 : (y.take k).length ≤ k := List.length_take_le _ _
          have hl2 : (y.take (k + 1)).length ≤ k + 1 := List.length_take_le _ _
          have hu7 : lcs (x.take (i + 1)) (y.take k) ≤ 1000 := by omega
          have hv7 : lcs (x.take i) (y.take (k + 1)) ≤ 1000 := by omega
          have ht7 : lcs (x.take i) (y.take k) ≤ 1000 := by omega
          have hkW : k + 1 < W := by have := HW.out; omega
          generalize lcs (x.take (i + 1)) (y.take k) = u at *
          generalize lcs (x.take i) (y.take (k + 1)) = v at *
          generalize lcs (x.take i) (y.take k) = t at *
          generalize L2.getD (k + 1) 0 = zz at *
          obtain ⟨best, hbe⟩ : ∃ best : Nat, best = max u v := ⟨_, rfl⟩
          have hbest : (if u < v then (v : Int) else (u : Int)) = (best : Int) := by split <;> omega
          have Hbe := hide hbe
          obtain ⟨k1, hk1⟩ : ∃ k1, k1 = k + 1 := ⟨_, rfl⟩
          rw [← hk1] at cv cn hkW
          have hw1 : IntKind.i64.wrap ((k : Int) + 1) = (k1 : Int) := by rw [IntWalk.i64_in _ (by omega)]; omega
          have fn := Hmu2.out.free k1
          have Hk1 := hide hk1
          have hkW0 : k < W := by omega
          clear hu6 hv6 ht6 hl1 hl2 hbe hk1
          go_wp2
          refine Rg.wp_region_ord (fun w' => w'.cell? ⟨g2, k, none⟩ = some (.int .i64 (u : Int)) ∧ w'.cell? ⟨g, k1, none⟩ = some (.int .i64 (v : Int))) [(0, true), (1, true), (2, true), (3, true), (4, true), (5, true), (6, true), (7, true), (8, true), (9, true), (10, true), (11, true), (12, true), (13, true), (14, false)] (by kernel_rfl) (by kernel_rfl) ?_
          simp only [Rg.pick, List.map_cons, List.map_nil, List.getD_cons_zero, List.getD_cons_succ]
          iterate 14 (refine Rg.ord_quiet (v := ?_) rfl (fun w' hS => ?_) ⟨cu, cv⟩ ?_; rotate_left; (obtain ⟨s0, s1⟩ := hS; go_simp; with_reducible rfl); simp only [Act.put, List.setIfInBounds_toArray, List.set_cons_succ, List.set_cons_zero])
          refine Rg.ord_loud rfl (fun K hK => ?_)
          go_simp
          refine hK _ _ (fun hf => absurd (show Rg.sink _ 14 = true from by kernel_rfl) (by rw [hf]; decide)) ?_
          clear hK K hw1 hbest
          refine Rg.ord_nil ?_
          have Hmu5 := hide ((Hmu2.out.put k1 (best : Int)).drew)
          have Hnu5 := hide ((Hnu2.out.off (Ne.symm Hgn.out) k1 (.int .i64 (best : Int))).drew)
          have Hb5 := hide ((below_put Hb2.out (g := g2) (i := k1) Hmu2.out.lt.1 (.int .i64 (best : Int))).drew)
          obtain ⟨w5, hw5⟩ : ∃ w5, w5 = (wr.setCell ⟨g2, k1, none⟩ (.int .i64 (best : Int))).drew := ⟨_, rfl⟩
          rw [← hw5] at Hmu5 Hnu5 Hb5 ⊢
          have Hct := hide (show w5.cell? ⟨g, k, none⟩ = some (.int .i64 (t : Int)) by
            rw [Hnu5.out.cell (k := k) hkW0, ← ct, Hnu2.out.cell (k := k) hkW0])
          clear hw5 cu cv ct cn fn
          obtain ⟨ba, oa, rfl, ca⟩ := Hs.out.text Hb5.out (k := i) (by have := Hm.out; omega)
          obtain ⟨bb, ob, rfl, cb⟩ := Hs'.out.text Hb5.out (k := k) (by have := Hn.out; omega)
          obtain ⟨X, hX⟩ : ∃ X, X = x.getD i [] := ⟨_, rfl⟩
          obtain ⟨Y, hY⟩ : ∃ Y, Y = y.getD k [] := ⟨_, rfl⟩
          rw [← hX] at ca Hst
          rw [← hY] at cb Hst
          clear hX hY
          by_cases hXY : X = Y
          · have hbq : (X == Y) = true := by rw [hXY]; exact beq_self_eq_true _
            have Hl3 := hide (show Lined x y (i + 1) (k + 1) ((L2.set k1 (best : Int)).set k1 ((t : Int) + 1)) by
              rw [set_set', Hk1.out]
              exact Hli2.out.step (by rw [Hlen2.out]; have := Hk1.out; omega) _ (by rw [Hst.out, if_pos hXY]; rfl))
            clear hXY
            go_wp2
            go_quiet (fail)
            have Hmu6 := hide (Hmu5.out.drewN nq)
            have Hnu6 := hide (Hnu5.out.drewN nq)
            have Hb6 := hide (below_drewN Hb5.out nq)
            have ct6 : (w5.drewN nq).cell? ⟨g, k, none⟩ = some (.int .i64 (t : Int)) := Hct.out
            obtain ⟨w6, hw6⟩ : ∃ w6, w6 = w5.drewN nq := ⟨_, rfl⟩
            rw [← hw6] at Hmu6 Hnu6 Hb6 ct6 ⊢
            clear hw6 ca cb
            have cn6 := Hmu6.out.cell (k := k1) hkW
            have fn6 := Hmu6.out.free k1
            have hk1' : (k : Int) + 1 = (k1 : Int) := by have := Hk1.out; omega
            go_wp2
            exact ⟨⟨k + 1, _, by omega, by rw [show ((k + 1 : Nat) : Int) = (k1 : Int) by have := Hk1.out; omega], Hmu6.out.put k1 _, Hl3.out, Hnu6.out.off (Ne.symm Hgn.out) _ _, below_put Hb6.out (g := g2) (i := k1) Hmu6.out.lt.1 _⟩, by simp [intOf]; have := Hk1.out; omega⟩
          · have hbq : (X == Y) = false := by rw [beq_eq_false_iff_ne]; exact hXY
            have Hl3 := hide (show Lined x y (i + 1) (k + 1) (L2.set k1 (best : Int)) by
              rw [Hk1.out]
              exact Hli2.out.step (by rw [Hlen2.out]; have := Hk1.out; omega) _ (by rw [Hst.out, if_neg hXY, Hbe.out]))
            clear hXY
            go_wp2
            go_quiet (fail)
            go_wp2
            exact ⟨⟨k + 1, _, by omega, by go_num, Hmu5.out.drewN _, Hl3.out, Hnu5.out.drewN _, below_drewN Hb5.out _⟩, by simp [intOf]; omega⟩
        · obtain rfl : k = n := by omega
          go_wp2
          exact ⟨⟨i + 1, g2, L2, by omega, by go_num, rfl, Hmu2.out, Hli2.out, Hb2.out⟩, by simp [intOf]; omega⟩
    · obtain rfl : i = m := by omega
      have cz := hnu.cell (k := n) (by have := HW.out; omega)
      have hz := Hli.out n (Nat.le_refl _)
      rw [hz, Hm.out, Hn.out, List.take_length, List.take_length, ← Hn.out] at cz
      have hnW : n < W := by have := HW.out; omega
      have Hb := hide hb
      clear hnu hli hb hz
      go_wp2
      go_ret
      exact ⟨rfl, Hb.out⟩
end Go.Proofs.Ytghnieddokhagaa.Df
namespace Go.Proofs.Ytghnieddokhagaa.Df
open Go Go.RowKit Kt Lw

def slen : Value → Nat
  | .slice _ n _ => n
  | _ => 0
/-- the state of the reference's loop -/
def St (w : World) (B : Nat) (v u : Value) (q : Nat) (xs ys : Ls) (T : List Ed) : Prop :=
  (u = .bool false ∧ ∃ L, OwE w B v L ∧ L ++ go xs ys q 0 [] = T ∧ L.length + xs.length + ys.length ≤ 1400) ∨
  (u = .bool true ∧ ∃ g cap Ai ci O p d I, v = .slice (some ⟨g, 0, none⟩) (O.length + 1) cap ∧ OwL w B g cap (.slice Ai I.length ci) O ⟨(p : Nat), (d : Nat), I⟩ ∧ (d ≠ 0 ∨ I ≠ []) ∧ q = p + d ∧ O ++ go xs ys p d I = T ∧ O.length + 1 + xs.length + ys.length ≤ 1400 ∧ I.length + ys.length ≤ 1400)
theorem St.drewN {w : World} {B : Nat} {v u : Value} {q : Nat} {xs ys : Ls} {T : List Ed} (h : St w B v u q xs ys T) (n : Nat) : St (w.drewN n) B v u q xs ys T := h
theorem St.stay {w : World} {B : Nat} {v u : Value} {q : Nat} {x : List UInt8} {xs ys : Ls} {T : List Ed} (h : St w B v u q (x :: xs) (x :: ys) T) : St w B v (.bool false) (q + 1) xs ys T := by
  refine .inl ⟨rfl, ?_⟩
  rcases h with ⟨rfl, L, h1, h2, h3⟩ | ⟨rfl, g, cap, Ai, ci, O, p, d, I, rfl, h1, h2, rfl, h3, h4, h5⟩
  · refine ⟨L, h1, ?_, by simp at h3; omega⟩
    rw [go_both, if_pos rfl] at h2
    simpa [emit] using h2
  · refine ⟨_, h1.owe, ?_, by simp at h4 ⊢; omega⟩
    rw [go_both, if_pos rfl] at h3
    rw [← h3, List.append_assoc]
    congr 2
    unfold emit
    rw [if_neg (by intro h; rcases h2 with h2 | h2; exact h2 h.1; exact h2 h.2)]
theorem St.ends {w : World} {B : Nat} {v u : Value} {q : Nat} {T : List Ed} (h : St w B v u q [] [] T) : OwE w B v T := by
  rcases h with ⟨rfl, L, h1, h2, h3⟩ | ⟨rfl, g, cap, Ai, ci, O, p, d, I, rfl, h1, h2, rfl, h3, h4, h5⟩
  · rw [go_nil] at h2
    have : L = T := by simpa [emit] using h2
    rw [← this]
    exact h1
  · rw [go_nil] at h3
    rw [← h3]
    unfold emit
    rw [if_neg (by intro h; rcases h2 with h2 | h2; exact h2 h.1; exact h2 h.2)]
    exact h1.owe
theorem vs_tail {w : World} {P : Nat → Prop} {A : Option Addr} {c : Nat} {x : List UInt8} {xs : Ls} (h : Vs w P A c (texts (x :: xs))) : Vs w P (if c = 1 then A else A.map (·.add 1)) (c - 1) (texts xs) := by
  have := vs_cut h (i := 1) (j := (x :: xs).length) (by simp) (Nat.le_refl _)
  rw [show ((x :: xs).drop 1).take ((x :: xs).length - 1) = xs by simp] at this
  exact this
theorem run_tail (w : World) (A : Option Addr) (n c : Nat) (hi : 1 ≤ n) :
    (Instr.slice 25 (.slice A n c) (some (.int .i64 1)) none none).run Try.prog w = .ok (.slice (if c = 1 then A else A.map (·.add 1)) (n - 1) (c - 1)) w := run_cut1 w A n c 1 hi
end Go.Proofs.Ytghnieddokhagaa.Df
