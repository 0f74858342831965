/-
  The reference's Regions, piece by piece: its edits are marked; what nobody changed; a cluster's kind.
-/
import Derived.BigQuiet
import Derived.Test.YtghnieddokhagaaDoorJ3
import Derived.Test.YtghnieddokhagaaDoorQJS
import Derived.Test.YtghnieddokhagaaDoorQEE
import Derived.Test.YtghnieddokhagaaDoorQEG
import Derived.Test.YtghnieddokhagaaDoorQEL
import Derived.Deep.CutBlock
import Derived.Deep.DeepCutAuto
import Derived.Test.YtghnieddokhagaaDoorQWS
import Derived.Test.YtghnieddokhagaaDoorQLC
import Derived.Test.YtghnieddokhagaaDoorQReg
import Derived.IntWalk
import Derived.Test.YtghnieddokhagaaDoorQTH
import Derived.Test.YtghnieddokhagaaDoorQTA
import Derived.Test.YtghnieddokhagaaDoorQMK
namespace Go.Proofs.YtghnieddokhagaaDoor.Al
open Go Go.RowKit Kt Kg Lw Li Df Kf

/-- two codes, the first one a region, by its number -/
def findS (n : Nat) : Code → Option Code
  | .seq (.region m ops d) b => if m = n then some (.seq (.region m ops d) b) else findS n b
  | .seq a b => (findS n a).or (findS n b)
  | .block _ b => findS n b
  | .loop b => findS n b
  | .cond _ a b => (findS n a).or (findS n b)
  | _ => none
def neg (e : Ed) : Ed := ⟨-1, e.del, e.ins⟩
theorem flat_set {α : Type} (f : α → List Value) (n : Nat) (hf : ∀ a, (f a).length = n) : ∀ (l : List α) (i k : Nat) (a a' : α) (u : Value), l[i]? = some a → k < n → f a' = (f a).set k u → (l.set i a').flatMap f = (l.flatMap f).set (n * i + k) u
  | [], i, k, a, a', u, h, _, _ => by simp at h
  | x :: l, 0, k, a, a', u, h, hk, he => by
    simp at h
    subst h
    rw [List.set_cons_zero, List.flatMap_cons, List.flatMap_cons, he, Nat.mul_zero, Nat.zero_add, List.set_append_left _ _ (by rw [hf]; exact hk)]
  | x :: l, i + 1, k, a, a', u, h, hk, he => by
    rw [List.set_cons_succ, List.flatMap_cons, List.flatMap_cons, flat_set f n hf l i k a a' u (by simpa using h) hk he, List.set_append_right _ _ (by rw [hf, Nat.mul_succ]; omega), hf]
    congr 2
    rw [Nat.mul_succ]; omega
theorem owe_neg {w : World} {B g n c i : Nat} {L : List Ed} (h : OwE w B (.slice (some ⟨g, 0, none⟩) n c) L) (hn : n = L.length) (hi : i < L.length) :
    OwE (w.setCell ⟨g, i * 3, none⟩ (.int .i64 (-1))) B (.slice (some ⟨g, 0, none⟩) n c) (L.set i (neg (L.getD i ⟨0, 0, []⟩))) ∧ w.grownBy (w.setCell ⟨g, i * 3, none⟩ (.int .i64 (-1))) (some g) ∧ w.cell? ⟨g, i * 3, none⟩ = some (.int .i64 (L.getD i ⟨0, 0, []⟩).pos) ∧ w.frozen? ⟨g, i * 3, none⟩ = false := by
  subst hn
  obtain ⟨V, rfl, hr, hin⟩ := h
  rw [List.length_map] at hi
  obtain ⟨x, hVi⟩ : ∃ x, V[i]? = some x := ⟨V[i], List.getElem?_eq_getElem hi⟩
  have hLi : (V.map (·.1)).getD i ⟨0, 0, []⟩ = x.1 := by
    rw [List.getD_eq_getElem?_getD, List.getElem?_map, hVi]; rfl
  have hst := World.ownsRow.stored (cap := c) hr (i * 3) (.int .i64 (-1))
  have hfl := flat_set pairC 3 pairC_len V i 0 x (neg x.1, x.2) (.int .i64 (-1)) hVi (by omega) rfl
  rw [Nat.add_zero, Nat.mul_comm 3 i] at hfl
  rw [hLi]
  refine ⟨⟨V.set i (neg x.1, x.2), by rw [List.map_set], ?_, ?_⟩, hst.2, ?_, World.ownsRow.frozenAt hr _⟩
  · rw [List.length_set, hfl]
    exact hst.1
  · intro p hp
    have key : ∀ (u : Value) (l : Ls), OwT w B tS u l → OwT (w.setCell ⟨g, i * 3, none⟩ (.int .i64 (-1))) B tS u l := by
      intro u l hu
      refine World.ownsRow.kept hu hst.2 ?_
      rcases hu.2 with ⟨rfl, _⟩ | ⟨g1, cap, cur, rfl, _, hgg, _⟩
      · exact .inl rfl
      · right
        intro he
        simp only [Value.ownBlock, Option.some.injEq] at he
        subst he
        rcases hr.2 with ⟨h1, _⟩ | ⟨g', cap', cur', h1, _, hgg', _⟩
        · cases h1
        · injection h1 with h1
          injection h1 with h1
          injection h1 with h1
          subst h1
          rw [hgg] at hgg'
          simp [tS, tE] at hgg'
    rcases List.mem_or_eq_of_mem_set hp with hp | rfl
    · exact key _ _ (hin p hp)
    · exact key _ _ (hin x (List.mem_of_getElem? hVi))
  · rw [World.ownsRow.cellAt hr (i * 3) (by rw [List.length_map]; omega), Nat.mul_comm i 3]
    have := flat_at pairC 3 pairC_len V i 0 x hVi (by omega)
    rw [Nat.add_zero] at this
    rw [this]; rfl
/-- those of a cluster so far, but one, are marked -/
def used (φ : Nat → Ed) (C : Nat → Bool) (f k : Nat) (i : Nat) : Ed := if i < k ∧ C i = true ∧ i ≠ f then neg (φ i) else φ i
theorem used_zero (φ : Nat → Ed) (C : Nat → Bool) (f : Nat) : used φ C f 0 = φ := by
  funext i
  unfold used
  rw [if_neg (fun h => absurd h.1 (Nat.not_lt_zero _))]
theorem used_same {φ : Nat → Ed} {C : Nat → Bool} {f k : Nat} (h : ¬ (C k = true ∧ k ≠ f)) : used φ C f (k + 1) = used φ C f k := by
  funext i
  unfold used
  by_cases hik : i = k
  · subst hik
    rw [if_neg (fun x => h ⟨x.2.1, x.2.2⟩), if_neg (fun x => absurd x.1 (Nat.lt_irrefl _))]
  · by_cases hi : i < k
    · have : i < k + 1 := by omega
      simp [hi, this]
    · have : ¬ i < k + 1 := by omega
      simp [hi, this]
theorem used_more {φ : Nat → Ed} {C : Nat → Bool} {f k : Nat} (h : C k = true ∧ k ≠ f) : used φ C f (k + 1) = fun j => if j = k then neg (used φ C f k k) else used φ C f k j := by
  funext i
  have hk : used φ C f k k = φ k := if_neg fun x => absurd x.1 (Nat.lt_irrefl _)
  rw [hk]
  by_cases hik : i = k
  · subst hik
    rw [if_pos rfl]
    exact if_pos ⟨by omega, h.1, h.2⟩
  · rw [if_neg hik]
    unfold used
    by_cases hi : i < k
    · have : i < k + 1 := by omega
      simp [hi, this]
    · have : ¬ i < k + 1 := by omega
      simp [hi, this]

end Go.Proofs.YtghnieddokhagaaDoor.Al
namespace Go.Proofs.YtghnieddokhagaaDoor.Ke
open Go Go.RowKit Kt Lw Df

theorem run_append_nothingE {P : Program} {w : World} {t ty e : TypeId} {i : TypeInfo} (ht : P.underlying t = some (.slice e)) (hi : P.info? e = some i) {B size : Nat}
    {v : Value} {n : Nat} {xs : List Value} (hown : w.ownsRow B e size v n xs) (c : Nat) : (Builtin.append_ #[t, t] ty #[v, .slice none 0 c]).run P w = .ok v w := by
  rcases hown.2 with ⟨rfl, rfl⟩ | ⟨g, cap, cur, rfl, _, _, hnc, _⟩
  · simp [Builtin.append_, run_underlying ht, sizeOf, typeInfo, hi, Builtin.lenOf, Builtin.firstCells]
  · simp [Builtin.append_, run_underlying ht, sizeOf, typeInfo, hi, Builtin.lenOf, Builtin.firstCells, hnc, storeCells]
theorem pairs_one {w : World} {B : Nat} (V : List (Ed × Value)) (h : ∀ p ∈ V, OwT w B tS p.2 p.1.ins) : ∀ u ∈ V.flatMap pairC, u.oneCell' = true := by
  intro u hu
  obtain ⟨p, hp, hu⟩ := List.mem_flatMap.1 hu
  simp only [pairC, edC, List.mem_cons, List.not_mem_nil, or_false] at hu
  rcases hu with rfl | rfl | rfl
  · rfl
  · rfl
  · exact OwT.one (h p hp)
/-- append(l, edits..), both of the call's own -/
theorem wp_catE {o : Oper} {a : Act} {K : Act → World → Prop} {Q : Exit → Act → World → Prop} {W : World} (s x : Operand)
    (ho : o.op = .call { callee := .builtin .append, args := #[s, x], argTypes := #[82, 82] })
    (B : Nat) (w0 : World) (v u : Value) (L M : List Ed) (hs : a.eval s = v) (hx : a.eval x = u)
    (hown : OwE W B v L) (hu : OwE W B u M) (hlen : L.length + M.length ≤ 1000000000) (hb : Below B w0 W) (hbase : B ≤ W.heap.size)
    (h : ∀ v' w', OwE w' B v' (L ++ M) → Below B w0 w' → W.grownBy w' v.ownBlock → K (a.put o.dst v') w') : o.wp Tryd.prog a W K Q := by
  obtain ⟨i0, hi0, hz0, hz1, hz2⟩ := info_parts infoEd
  obtain ⟨V, hV, hr, hi⟩ := hown
  obtain ⟨V2, hV2, hr2, hi2⟩ := hu
  rcases hr2.2 with ⟨rfl, h0⟩ | ⟨g2, cap2, cur2, rfl, hB2, hg2, hnc2, hcm2, hsz2, ht2⟩
  · have hM : M = [] := List.eq_nil_of_length_eq_zero h0
    subst hM
    have hrun := run_append_nothingE (P := Tryd.prog) (ty := o.type) Tryd.underlying82 hi0 hr 0
    unfold Oper.wp execOp
    simp only [ho, resolve, invoke, builtin, Sem.run_bind, Sem.run_pure, Result.andThen_ok, List.map_toArray, List.map_cons, List.map_nil, hs, hx, hrun]
    exact h v W (by rw [List.append_nil]; exact ⟨V, hV, hr, hi⟩) hb (World.grownBy.refl _ _)
  · have hl2 : (V2.flatMap pairC).length = M.length * 3 := by rw [flat_len pairC 3 pairC_len, ← hV2, List.length_map]
    refine wp_append_own _ s x 82 ho B tE i0 (.agg #[.int .i64 0, .int .i64 0, .slice none 0 0]) 3 40 Tryd.underlying82 hi0 hz0 hz1 hz2 rfl (by omega) v L.length (V.flatMap pairC) hs hr
      ⟨g2, 0, none⟩ M.length cap2 (V2.flatMap pairC) hx hl2 (fun j u hu => ?_) (pairs_one V2 hi2) (by unfold maxLen; omega) (by omega) hbase (fun v' w' h1 h2 _ => ?_)
    · have hj : j < M.length * 3 := by have := (List.getElem?_eq_some_iff.1 hu).1; rwa [hl2] at this
      rw [Addr.add_mid, Nat.zero_add, World.ownsRow.cellAt (cap := cap2) hr2 j hj]
      exact hu
    · have key : ∀ (y : Value) (l : Ls), OwT W B tS y l → OwT w' B tS y l := by
        intro y l hy
        refine World.ownsRow.kept hy h2 ?_
        rcases hy.2 with ⟨rfl, _⟩ | ⟨g, cap, cur, rfl, _, hgg, _⟩
        · exact .inl rfl
        · right
          intro he
          rcases hr.2 with ⟨rfl, _⟩ | ⟨g', cap', cur', rfl, _, hgg', _⟩
          · cases he
          · simp only [Value.ownBlock, Option.some.injEq] at he
            subst he
            rw [hgg] at hgg'
            simp [tS, tE] at hgg'
      refine h v' w' ⟨V ++ V2, by simp [hV, hV2], ?_, fun p hp => ?_⟩ (hb.grown h2 hbase fun k hk => (World.ownsRow.lt hr k hk).1) h2
      · rw [List.flatMap_append, List.length_append]
        exact h1
      · rcases List.mem_append.1 hp with hp | hp
        · exact key _ _ (hi p hp)
        · exact key _ _ (hi2 p hp)
theorem wpList_catE {ops : Array Oper} {rest : List Oper} {o : Oper} {a : Act} {Q : Exit → Act → World → Prop} {W : World} (hgd : o.guard = none) (s x : Operand)
    (ho : o.op = .call { callee := .builtin .append, args := #[s, x], argTypes := #[82, 82] })
    (B : Nat) (w0 : World) (v u : Value) (L M : List Ed) (hs : a.eval s = v) (hx : a.eval x = u)
    (hown : OwE W B v L) (hu : OwE W B u M) (hlen : L.length + M.length ≤ 1000000000) (hb : Below B w0 W) (hbase : B ≤ W.heap.size)
    (h : ∀ v' w', OwE w' B v' (L ++ M) → Below B w0 w' → W.grownBy w' v.ownBlock → wpList Tryd.prog ops Q rest (a.put o.dst v') w') : wpList Tryd.prog ops Q (o :: rest) a W :=
  wpList_plain hgd fun _ hK => wp_catE s x ho B w0 v u L M hs hx hown hu hlen hb hbase fun v' w' h1 h2 h3 => hK _ _ (h v' w' h1 h2 h3)
end Go.Proofs.YtghnieddokhagaaDoor.Ke
namespace Go.Proofs.YtghnieddokhagaaDoor.Df
open Go Go.RowKit Kt Lw

def OwL (w : World) (B g cap : Nat) (vi : Value) (O : List Ed) (e : Ed) : Prop :=
  ∃ V : List (Ed × Value), V.map (·.1) = O ∧ w.ownsRow B tE 3 (.slice (some ⟨g, 0, none⟩) (O.length + 1) cap) (O.length + 1) (V.flatMap pairC ++ edC e vi) ∧ (∀ p ∈ V, OwT w B tS p.2 p.1.ins) ∧ OwT w B tS vi e.ins ∧
    ∀ p ∈ V, ∀ b, vi.ownBlock = some b → p.2.ownBlock ≠ some b
theorem row_own {w : World} {B g cap n : Nat} {xs : List Value} {u : Value} {l : Ls} (h : w.ownsRow B tE 3 (.slice (some ⟨g, 0, none⟩) n cap) n xs) (hu : OwT w B tS u l) : u.ownBlock ≠ some g := by
  intro hee
  rcases hu.2 with ⟨rfl, _⟩ | ⟨g', cap', cur', rfl, _, hgg', _⟩
  · cases hee
  · simp only [Value.ownBlock, Option.some.injEq] at hee
    subst hee
    rcases h.2 with ⟨h', _⟩ | ⟨g2, cap2, cur2, h', _, hgg2, _⟩
    · cases h'
    · simp only [Value.slice.injEq, Option.some.injEq, Addr.mk.injEq, and_true, true_and] at h'
      obtain ⟨rfl, _⟩ := h'
      rw [hgg'] at hgg2
      simp [tS, tE] at hgg2
section
variable {w w' : World} {B g cap : Nat} {vi : Value} {O : List Ed} {e : Ed}
theorem OwL.owe (h : OwL w B g cap vi O e) : OwE w B (.slice (some ⟨g, 0, none⟩) (O.length + 1) cap) (O ++ [e]) := by
  obtain ⟨V, hV, hr, hi, hv, _⟩ := h
  refine ⟨V ++ [(e, vi)], by simp [hV], ?_, fun p hp => ?_⟩
  · rw [List.flatMap_append, List.length_append]
    exact hr
  · rcases List.mem_append.1 hp with hp | hp
    · exact hi p hp
    · obtain rfl : p = (e, vi) := by simpa using hp
      exact hv
theorem OwL.flat (V : List (Ed × Value)) (hV : V.map (·.1) = O) : (V.flatMap pairC).length = O.length * 3 := by
  rw [flat_len pairC 3 pairC_len, ← hV, List.length_map]
theorem OwL.cell (h : OwL w B g cap vi O e) {N : Nat} (hN : N = O.length) (k : Nat) (hk : k < 3) : w.cell? ⟨g, N * 3 + k, none⟩ = (edC e vi)[k]? ∧ w.frozen? ⟨g, N * 3 + k, none⟩ = false := by
  subst hN
  obtain ⟨V, hV, hr, hi, hv, _⟩ := h
  refine ⟨?_, World.ownsRow.frozenAt hr _⟩
  rw [World.ownsRow.cellAt hr _ (by omega), List.getElem?_append_right (by rw [OwL.flat V hV]; omega), OwL.flat V hV, Nat.add_sub_cancel_left]
theorem OwL.lt (h : OwL w B g cap vi O e) : B ≤ g ∧ g < w.heap.size ∧ O.length + 1 ≤ cap := by
  obtain ⟨V, hV, hr, hi, hv, _⟩ := h
  have h2 := World.ownsRow.lt hr g rfl
  refine ⟨h2.1, h2.2, ?_⟩
  rcases hr.2 with ⟨h', _⟩ | ⟨g2, cap2, cur2, h', _, _, h3, _⟩
  · cases h'
  · simp only [Value.slice.injEq, Option.some.injEq, Addr.mk.injEq, and_true, true_and] at h'
    obtain ⟨_, rfl⟩ := h'
    exact h3
theorem OwL.keep (h : OwL w B g cap vi O e) (hb : Below w.heap.size w w') : OwL w' B g cap vi O e := by
  obtain ⟨V, hV, hr, hi, hv, hd⟩ := h
  refine ⟨V, hV, ⟨hr.1, ?_⟩, fun p hp => (hi p hp).kept hb, hv.kept hb, hd⟩
  rcases hr.2 with ⟨h1, h2⟩ | ⟨g, cap, cur, hv', h1, h2, h3⟩
  · exact .inl ⟨h1, h2⟩
  · exact .inr ⟨g, cap, cur, hv', h1, (hb.block g (Array.getElem?_eq_some_iff.1 h2).1).trans h2, h3⟩
theorem OwL.setDel (h : OwL w B g cap vi O e) {N : Nat} (hN : N = O.length) (z : Int) : OwL (w.setCell ⟨g, N * 3 + 1, none⟩ (.int .i64 z)) B g cap vi O ⟨e.pos, z, e.ins⟩ := by
  subst hN
  obtain ⟨V, hV, hr, hi, hv, hd⟩ := h
  obtain ⟨hst, hg⟩ := World.ownsRow.stored hr (O.length * 3 + 1) (.int .i64 z)
  refine ⟨V, hV, ?_, fun p hp => World.ownsRow.kept (hi p hp) hg (.inr (row_own hr (hi p hp))), World.ownsRow.kept hv hg (.inr (row_own hr hv)), hd⟩
  rw [List.set_append_right _ _ (by rw [OwL.flat V hV]; omega), OwL.flat V hV, Nat.add_sub_cancel_left] at hst
  exact hst
theorem OwL.setIns (h : OwL w B g cap vi O e) {N : Nat} (hN : N = O.length) (hg1 : w.grownBy w' vi.ownBlock) {vi' : Value} {l : Ls} (hv' : OwT w' B tS vi' l) (hbl : vi'.ownBlock = vi.ownBlock ∨ ∃ b, vi'.ownBlock = some b ∧ w.heap.size ≤ b) :
    OwL (w'.setCell ⟨g, N * 3 + 2, none⟩ vi') B g cap vi' O ⟨e.pos, e.del, l⟩ := by
  subst hN
  obtain ⟨V, hV, hr, hi, hv, hd⟩ := h
  have hne : ∀ p ∈ V, p.2.ownBlock = none ∨ p.2.ownBlock ≠ vi.ownBlock := by
    intro p hp
    cases hb : vi.ownBlock with
    | none =>
      cases hb2 : p.2.ownBlock with
      | none => exact .inl rfl
      | some b => exact .inr (by simp)
    | some b => exact .inr (hd p hp b hb)
  have hr1 := World.ownsRow.kept hr hg1 (.inr (fun h => row_own hr hv h.symm))
  have hi1 : ∀ p ∈ V, OwT w' B tS p.2 p.1.ins := fun p hp => World.ownsRow.kept (hi p hp) hg1 (hne p hp)
  obtain ⟨hst, hg⟩ := World.ownsRow.stored hr1 (O.length * 3 + 2) vi'
  refine ⟨V, hV, ?_, fun p hp => World.ownsRow.kept (hi1 p hp) hg (.inr (row_own hr1 (hi1 p hp))), World.ownsRow.kept hv' hg (.inr (row_own hr1 hv')), fun p hp b hb => ?_⟩
  · rw [List.set_append_right _ _ (by rw [OwL.flat V hV]; omega), OwL.flat V hV, Nat.add_sub_cancel_left] at hst
    exact hst
  · rcases hbl with h1 | ⟨b', h1, h2⟩
    · exact hd p hp b (h1 ▸ hb)
    · intro h3
      have := (World.ownsRow.lt (hi p hp) b h3).2
      rw [h1] at hb
      injection hb with hb
      omega
end
section
variable {w w' : World} {B g cap : Nat} {vi : Value} {O : List Ed} {e : Ed}
theorem OwL.grown (h : OwL w B g cap vi O e) {N : Nat} (hN : N = O.length) (hg1 : w.grownBy w' vi.ownBlock) (k : Nat) (hk : k < 3) : w'.cell? ⟨g, N * 3 + k, none⟩ = (edC e vi)[k]? ∧ w'.frozen? ⟨g, N * 3 + k, none⟩ = false := by
  subst hN
  obtain ⟨V, hV, hr, hi, hv, hd⟩ := h
  have hr1 := World.ownsRow.kept hr hg1 (.inr (fun h => row_own hr hv h.symm))
  refine ⟨?_, World.ownsRow.frozenAt hr1 _⟩
  rw [World.ownsRow.cellAt hr1 _ (by omega), List.getElem?_append_right (by rw [OwL.flat V hV]; omega), OwL.flat V hV, Nat.add_sub_cancel_left]
theorem OwL.drewN (h : OwL w B g cap vi O e) (n : Nat) : OwL (w.drewN n) B g cap vi O e := h
theorem OwL.drew (h : OwL w B g cap vi O e) : OwL w.drew B g cap vi O e := h
theorem OwL.ins (h : OwL w B g cap vi O e) : OwT w B tS vi e.ins := by
  obtain ⟨V, hV, hr, hi, hv, hd⟩ := h
  exact hv
end
/-- an edit is opened -/
theorem wpList_pushL {ops : Array Oper} {rest : List Oper} {o : Oper} {a : Act} {Q : Exit → Act → World → Prop} {W : World} (hgd : o.guard = none) (s x : Operand)
    (ho : o.op = .call { callee := .builtin .append, args := #[s, x], argTypes := #[82, 82] })
    (B : Nat) (w0 : World) (v : Value) (L : List Ed) (z : Int) (cs : Array Value) (hs : a.eval s = v) (hx : a.eval x = .slice (some ⟨W.heap.size, 0, none⟩) 1 1) (hc : cs = (edC ⟨z, 0, []⟩ (.slice none 0 0)).toArray)
    (hown : OwE W B v L) (M : Nat) (hM : M = L.length + 1) (hlen : L.length + 1 ≤ 1000000000) (hb : Below B w0 W) (hbase : B ≤ W.heap.size)
    (h : ∀ g cap w', OwL w' B g cap (.slice none 0 0) L ⟨z, 0, []⟩ → Below B w0 w' → wpList Tryd.prog ops Q rest (a.put o.dst (.slice (some ⟨g, 0, none⟩) M cap)) w') : wpList Tryd.prog ops Q (o :: rest) a (W.alloc (.cells cs tE)) := by
  subst hM
  refine wpList_plain hgd fun _ hK => ?_
  obtain ⟨i0, hi0, hz0, hz1, hz2⟩ := info_parts infoEd
  subst hc
  obtain ⟨V, hV, hr, hi⟩ := hown
  refine wp_append_own _ s x 82 ho B tE i0 (.agg #[.int .i64 0, .int .i64 0, .slice none 0 0]) 3 40 Tryd.underlying82 hi0 hz0 hz1 hz2 rfl (by omega) v L.length (V.flatMap pairC) hs (World.ownsRow.alloc hr _)
    ⟨W.heap.size, 0, none⟩ 1 1 (edC ⟨z, 0, []⟩ (.slice none 0 0)) hx rfl (fun j u hu => ?_) ?_ (by unfold maxLen; omega) (by omega) (by simp; omega) (fun v' w' h1 h2 _ => ?_)
  · rw [Addr.add_mid, (Row.fresh W tE (edC ⟨z, 0, []⟩ (.slice none 0 0)).toArray).cell]
    simpa using hu
  · intro u hu
    simp only [edC, List.mem_cons, List.not_mem_nil, or_false] at hu
    rcases hu with rfl | rfl | rfl <;> rfl
  · have hg := grownBy_back _ h2
    have key : ∀ (u : Value) (l : Ls), OwT W B tS u l → OwT w' B tS u l := by
      intro u l hu
      refine World.ownsRow.kept hu hg ?_
      rcases hu.2 with ⟨rfl, _⟩ | ⟨g, cap, cur, rfl, _, hgg, _⟩
      · exact .inl rfl
      · right
        intro he
        rcases hr.2 with ⟨rfl, _⟩ | ⟨g', cap', cur', rfl, _, hgg', _⟩
        · cases he
        · simp only [Value.ownBlock, Option.some.injEq] at he
          subst he
          rw [hgg] at hgg'
          simp [tS, tE] at hgg'
    obtain ⟨g, cap, rfl⟩ : ∃ g cap, v' = .slice (some ⟨g, 0, none⟩) (L.length + 1) cap := by
      rcases h1.2 with ⟨_, h0⟩ | ⟨g, cap, cur, hv, _⟩
      · omega
      · exact ⟨g, cap, hv⟩
    exact hK _ _ (h g cap w' ⟨V, hV, h1, fun p hp => key _ _ (hi p hp), OwT.nil _ _ _, fun p hp b hb => by cases hb⟩ (hb.grown hg hbase fun k hk => (World.ownsRow.lt hr k hk).1))
end Go.Proofs.YtghnieddokhagaaDoor.Df
namespace Go.Proofs.YtghnieddokhagaaDoor.Df
open Go Go.RowKit Kt Lw Li

theorem right_len (n : Nat) : ∀ (L : List Ed) (last : Int), -1 ≤ last → right n last L = true → (L.length : Int) ≤ size L
  | [], _, _, _ => by simp [size]
  | e :: l, last, h1, hr => by
    obtain ⟨p, d, ep, ed, hpd, hlp, hne, hr'⟩ := right_head hr h1
    have := right_len n l _ (by omega) hr'
    rw [size, List.length_cons, ed]
    rcases hne with h | h
    · omega
    · have := List.length_pos_iff.2 h
      omega
/-- how large what is between is -/
theorem D_small (a b : Ls) (ha : a.length ≤ 100) (hb : b.length ≤ 100) : size (D a b) ≤ 200 ∧ (D a b).length ≤ 200 := by
  have h1 := D_size a b (Nat.le_trans (mul_le ha hb) (by omega))
  have h2 := right_len _ _ _ (by omega) (D_right a b)
  constructor <;> omega
theorem back_facts (a b : Ls) : play b 0 (turn a 0 (D a b)) = a ∧ right b.length (-1) (turn a 0 (D a b)) = true ∧ size (turn a 0 (D a b)) = size (D a b) := by
  have hr := D_right a b
  have h1 := play_turn a (D a b) 0 (-1) [] 0 0 (by omega) (by omega) hr rfl rfl
  have h2 := right_turn a (D a b) 0 (-1) 0 b.length (by omega) (by omega) hr (by rw [D_play]; simp)
  rw [List.nil_append, D_play, List.drop_zero] at h1
  exact ⟨h1, h2, size_turn a (D a b) (-1) 0 (by omega) hr⟩
end Go.Proofs.YtghnieddokhagaaDoor.Df
namespace Go.Proofs.YtghnieddokhagaaDoor.Df
open Go Go.RowKit Kt Lw Li

theorem flat_set : ∀ (V : List (Ed × Value)) (i : Nat) (e : Ed) (vi : Value) (p : Int), V[i]? = some (e, vi) → (V.set i (⟨p, e.del, e.ins⟩, vi)).flatMap pairC = (V.flatMap pairC).set (i * 3) (.int .i64 p)
  | [], i, e, vi, p, h => by simp at h
  | q :: V, 0, e, vi, p, h => by
    simp at h
    subst h
    rfl
  | q :: V, i + 1, e, vi, p, h => by
    rw [List.set_cons_succ, List.flatMap_cons, List.flatMap_cons, flat_set V i e vi p (by simpa using h), List.set_append_right _ _ (by rw [pairC_len]; omega), pairC_len]
    congr 2
    omega
theorem OwE.form {w : World} {B : Nat} {v : Value} {L : List Ed} (h : OwE w B v L) (hn : 0 < L.length) : ∃ g cap, v = .slice (some ⟨g, 0, none⟩) L.length cap ∧ B ≤ g := by
  obtain ⟨V, _, hr, _⟩ := h
  rcases hr.2 with ⟨_, h0⟩ | ⟨g, cap, cur, hv, hB, _⟩
  · omega
  · exact ⟨g, cap, hv, hB⟩
/-- an edit's place, turned where it lies -/
theorem OwE.turned {w : World} {B g cap i : Nat} {M : List Ed} {e : Ed} (h : OwE w B (.slice (some ⟨g, 0, none⟩) M.length cap) M) (he : M[i]? = some e) :
    (w.cell? ⟨g, i * 3, none⟩ = some (.int .i64 e.pos) ∧ w.frozen? ⟨g, i * 3, none⟩ = false) ∧ ∀ p : Int, OwE (w.setCell ⟨g, i * 3, none⟩ (.int .i64 p)) B (.slice (some ⟨g, 0, none⟩) M.length cap) (M.set i ⟨p, e.del, e.ins⟩) := by
  obtain ⟨V, hV, hr, hi⟩ := h
  have hil : i < M.length := (List.getElem?_eq_some_iff.1 he).1
  subst hV
  rw [List.getElem?_map] at he
  cases hp : V[i]? with
  | none => rw [hp] at he; cases he
  | some q =>
    rw [hp] at he
    simp at he
    obtain ⟨e', vi⟩ := q
    simp at he
    subst he
    rw [List.length_map] at hil hr ⊢
    refine ⟨⟨?_, World.ownsRow.frozenAt hr _⟩, fun p => ?_⟩
    · rw [World.ownsRow.cellAt hr (i * 3) (by omega), Nat.mul_comm, show 3 * i = 3 * i + 0 from rfl, flat_at pairC 3 pairC_len V i 0 _ hp (by omega)]
      rfl
    · obtain ⟨hst, hg⟩ := World.ownsRow.stored hr (i * 3) (.int .i64 p)
      refine ⟨V.set i (⟨p, e'.del, e'.ins⟩, vi), by rw [List.map_set], ?_, fun q hq => ?_⟩
      · rw [flat_set V i e' vi p hp, List.length_set, List.length_map]
        exact hst
      · have key : ∀ (u : Value) (l : Ls), OwT w B tS u l → OwT (w.setCell ⟨g, i * 3, none⟩ (.int .i64 p)) B tS u l := by
          intro u l hu
          refine World.ownsRow.kept hu hg ?_
          rcases hu.2 with ⟨rfl, _⟩ | ⟨g', cap', cur', rfl, _, hgg', _⟩
          · exact .inl rfl
          · right
            intro hee
            simp only [Value.ownBlock, Option.some.injEq] at hee
            subst hee
            rcases hr.2 with ⟨h', _⟩ | ⟨g2, cap2, cur2, h', _, hgg2, _⟩
            · cases h'
            · simp only [Value.slice.injEq, Option.some.injEq, Addr.mk.injEq, and_true, true_and] at h'
              obtain ⟨rfl, _⟩ := h'
              rw [hgg'] at hgg2
              simp [tS, tE] at hgg2
        rcases List.mem_or_eq_of_mem_set hq with hq | hq
        · exact key _ _ (hi q hq)
        · subst hq
          exact key _ _ (hi (e', vi) (List.mem_of_getElem? hp))
/-- the first i edits are back, the others are n further on -/
def Mi (L : List Ed) (n i : Nat) : List Ed := L.take i ++ (shift n L).drop i
theorem shift_len (n : Nat) (L : List Ed) : (shift n L).length = L.length := by simp [shift]
theorem Mi_len (L : List Ed) (n i : Nat) (h : i ≤ L.length) : (Mi L n i).length = L.length := by
  unfold Mi; rw [List.length_append, List.length_take, List.length_drop, shift_len]; omega
theorem Mi_at {L : List Ed} {n i : Nat} {e : Ed} (h : L[i]? = some e) : (Mi L n i)[i]? = some ⟨e.pos + n, e.del, e.ins⟩ := by
  have hi := (List.getElem?_eq_some_iff.1 h).1
  unfold Mi
  rw [List.getElem?_append_right (by rw [List.length_take]; omega), List.length_take, Nat.min_eq_left (by omega), Nat.sub_self, List.getElem?_drop, Nat.add_zero]
  unfold shift
  rw [List.getElem?_map, h]
  rfl
theorem Mi_next {L : List Ed} {n i : Nat} {e : Ed} (h : L[i]? = some e) : Mi L n (i + 1) = (Mi L n i).set i ⟨e.pos + n - n, e.del, e.ins⟩ := by
  have hi := (List.getElem?_eq_some_iff.1 h).1
  have he : (⟨e.pos + n - n, e.del, e.ins⟩ : Ed) = e := by
    rw [Int.add_sub_cancel]
  rw [he]
  unfold Mi
  rw [List.set_append_right _ _ (by rw [List.length_take]; omega), List.length_take, Nat.min_eq_left (by omega), Nat.sub_self, List.take_add_one, h,
    List.drop_eq_getElem_cons (show i < (shift n L).length by rw [shift_len]; exact hi), List.set_cons_zero]
  simp
theorem Mi_first (L : List Ed) (n : Nat) : Mi L n 0 = shift n L := by simp [Mi]
theorem Mi_last (L : List Ed) (n : Nat) : Mi L n L.length = L := by simp [Mi, shift_len]
theorem right_pos (n : Nat) : ∀ (L : List Ed) (last : Int), -1 ≤ last → right n last L = true → ∀ e ∈ L, 0 ≤ e.pos ∧ e.pos ≤ n ∧ e.ins.length ≤ 1000000000000 + e.ins.length
  | [], _, _, _, e, he => by cases he
  | a :: l, last, h1, hr, e, he => by
    obtain ⟨p, d, ep, ed, hpd, hlp, hne, hr'⟩ := right_head hr h1
    rcases List.mem_cons.1 he with rfl | he
    · rw [ep]; omega
    · exact right_pos n l _ (by omega) hr' e he
theorem size_mem : ∀ (L : List Ed) (e : Ed), e ∈ L → (e.ins.length : Int) ≤ size L
  | a :: l, e, he => by
    rw [size]
    have h0 := size_pos l
    rcases List.mem_cons.1 he with rfl | he
    · omega
    · have := size_mem l e he
      omega
theorem flat_snoc (l : Ls) (k : Nat) (h : k < l.length) : (l.take (k + 1)).flatten = (l.take k).flatten ++ l.getD k [] := by
  rw [List.take_succ_eq_append_getElem h, List.flatten_append]; simp [List.getElem?_eq_getElem h]
theorem flat_le (M : Nat) : ∀ l : Ls, (∀ s ∈ l, s.length ≤ M) → l.flatten.length ≤ l.length * M
  | [], _ => by simp
  | a :: l, h => by
    have := flat_le M l fun s hs => h s (by simp [hs])
    have := h a (by simp)
    rw [List.flatten_cons, List.length_append, List.length_cons, Nat.succ_mul]
    omega
theorem flat_mem : ∀ (l : Ls) (s : List UInt8), s ∈ l → s.length ≤ l.flatten.length
  | a :: l, s, h => by
    rw [List.flatten_cons, List.length_append]
    rcases List.mem_cons.1 h with rfl | h
    · omega
    · have := flat_mem l s h
      omega
end Go.Proofs.YtghnieddokhagaaDoor.Df
namespace Go.Proofs.YtghnieddokhagaaDoor.Df
open Go Go.RowKit Kt Lw Li

/-- the row behind i lines, as far as place k -/
def Lined (x y : Ls) (i k : Nat) (L : List Int) : Prop := ∀ j, j ≤ k → L.getD j 0 = (lcs (x.take i) (y.take j) : Nat)
theorem take_snoc (x : Ls) (i : Nat) (h : i < x.length) : x.take (i + 1) = x.take i ++ [x.getD i []] := by
  rw [List.take_succ_eq_append_getElem h]
  simp [List.getElem?_eq_getElem h]
theorem Lined.first (x y : Ls) (k N : Nat) : Lined x y 0 k (List.replicate N 0) := by
  intro j _
  rw [List.take_zero, lcs_nil_left, List.getD_eq_getElem?_getD, List.getElem?_replicate]
  split <;> rfl
theorem Lined.start (x y : Ls) (i N : Nat) : Lined x y i 0 (List.replicate N 0) := by
  intro j hj
  obtain rfl : j = 0 := by omega
  rw [List.take_zero, lcs_nil_right, List.getD_eq_getElem?_getD, List.getElem?_replicate]
  split <;> rfl
theorem lcs_step (x y : Ls) {i k : Nat} (hi : i < x.length) (hk : k < y.length) : lcs (x.take (i + 1)) (y.take (k + 1)) =
    if x.getD i [] = y.getD k [] then lcs (x.take i) (y.take k) + 1 else max (lcs (x.take (i + 1)) (y.take k)) (lcs (x.take i) (y.take (k + 1))) := by
  rw [take_snoc x i hi, take_snoc y k hk, lcs_snoc, ← take_snoc y k hk, ← take_snoc x i hi]
  split
  · rfl
  · exact Nat.max_comm _ _
theorem Lined.step {x y : Ls} {i k : Nat} {L : List Int} (h : Lined x y i k L) (hk : k + 1 < L.length) (z : Int) (hz : z = (lcs (x.take i) (y.take (k + 1)) : Nat)) : Lined x y i (k + 1) (L.set (k + 1) z) := by
  intro j hj
  rw [set_getD _ _ _ _ hk]
  split
  · rename_i e; rw [hz, e]
  · exact h j (by omega)
theorem set_set' (L : List Int) (k : Nat) (a b : Int) : (L.set k a).set k b = L.set k b := by simp

end Go.Proofs.YtghnieddokhagaaDoor.Df
namespace Go.Proofs.YtghnieddokhagaaDoor.Df
open Go Go.RowKit Kt Lw

def slen : Value → Nat
  | .slice _ n _ => n
  | _ => 0
/-- the state of the reference's loop -/
def St (w : World) (B : Nat) (v u : Value) (q : Nat) (xs ys : Ls) (T : List Ed) : Prop :=
  (u = .bool false ∧ ∃ L, OwE w B v L ∧ L ++ go xs ys q 0 [] = T ∧ L.length + xs.length + ys.length ≤ 1400) ∨
  (u = .bool true ∧ ∃ g cap Ai ci O p d I, v = .slice (some ⟨g, 0, none⟩) (O.length + 1) cap ∧ OwL w B g cap (.slice Ai I.length ci) O ⟨(p : Nat), (d : Nat), I⟩ ∧ (d ≠ 0 ∨ I ≠ []) ∧ q = p + d ∧ O ++ go xs ys p d I = T ∧ O.length + 1 + xs.length + ys.length ≤ 1400 ∧ I.length + ys.length ≤ 1400)
theorem St.drewN {w : World} {B : Nat} {v u : Value} {q : Nat} {xs ys : Ls} {T : List Ed} (h : St w B v u q xs ys T) (n : Nat) : St (w.drewN n) B v u q xs ys T := h
theorem St.stay {w : World} {B : Nat} {v u : Value} {q : Nat} {x : List UInt8} {xs ys : Ls} {T : List Ed} (h : St w B v u q (x :: xs) (x :: ys) T) : St w B v (.bool false) (q + 1) xs ys T := by
  refine .inl ⟨rfl, ?_⟩
  rcases h with ⟨rfl, L, h1, h2, h3⟩ | ⟨rfl, g, cap, Ai, ci, O, p, d, I, rfl, h1, h2, rfl, h3, h4, h5⟩
  · refine ⟨L, h1, ?_, by simp at h3; omega⟩
    rw [go_both, if_pos rfl] at h2
    simpa [emit] using h2
  · refine ⟨_, h1.owe, ?_, by simp at h4 ⊢; omega⟩
    rw [go_both, if_pos rfl] at h3
    rw [← h3, List.append_assoc]
    congr 2
    unfold emit
    rw [if_neg (by intro h; rcases h2 with h2 | h2; exact h2 h.1; exact h2 h.2)]
theorem St.ends {w : World} {B : Nat} {v u : Value} {q : Nat} {T : List Ed} (h : St w B v u q [] [] T) : OwE w B v T := by
  rcases h with ⟨rfl, L, h1, h2, h3⟩ | ⟨rfl, g, cap, Ai, ci, O, p, d, I, rfl, h1, h2, rfl, h3, h4, h5⟩
  · rw [go_nil] at h2
    have : L = T := by simpa [emit] using h2
    rw [← this]
    exact h1
  · rw [go_nil] at h3
    rw [← h3]
    unfold emit
    rw [if_neg (by intro h; rcases h2 with h2 | h2; exact h2 h.1; exact h2 h.2)]
    exact h1.owe
theorem vs_tail {w : World} {P : Nat → Prop} {A : Option Addr} {c : Nat} {x : List UInt8} {xs : Ls} (h : Vs w P A c (texts (x :: xs))) : Vs w P (if c = 1 then A else A.map (·.add 1)) (c - 1) (texts xs) := by
  have := vs_cut h (i := 1) (j := (x :: xs).length) (by simp) (Nat.le_refl _)
  rw [show ((x :: xs).drop 1).take ((x :: xs).length - 1) = xs by simp] at this
  exact this
theorem run_tail (w : World) (A : Option Addr) (n c : Nat) (hi : 1 ≤ n) :
    (Instr.slice 25 (.slice A n c) (some (.int .i64 1)) none none).run Tryd.prog w = .ok (.slice (if c = 1 then A else A.map (·.add 1)) (n - 1) (c - 1)) w := run_cut1 w A n c 1 hi
end Go.Proofs.YtghnieddokhagaaDoor.Df
namespace Go.Proofs.YtghnieddokhagaaDoor.Df
open Go Go.RowKit Kt Lw Li

theorem OwE.lit {w : World} {B : Nat} {e : Ed} {vi : Value} (h : OwT w B tS vi e.ins) (hB : B ≤ w.heap.size) : OwE (w.alloc (.cells (edC e vi).toArray tE)) B (.slice (some ⟨w.heap.size, 0, none⟩) 1 1) [e] := by
  refine ⟨[(e, vi)], rfl, ?_, fun p hp => ?_⟩
  · have := World.ownsRow_lit (e := tE) (size := 3) (base := B) w (edC e vi).toArray 1 hB (by decide) rfl
    simpa [pairC] using this
  · obtain rfl : p = (e, vi) := by simpa using hp
    exact OwT.alloc h _
theorem D_one (a b : Ls) (h : mid a (fr a b) (bk a b) = [] ∨ mid b (fr a b) (bk a b) = [] ∨ 65536 < (mid a (fr a b) (bk a b)).length * (mid b (fr a b) (bk a b)).length)
    (h2 : ¬ ((mid a (fr a b) (bk a b)).length = 0 ∧ mid b (fr a b) (bk a b) = [])) : D a b = [⟨(fr a b : Nat), ((mid a (fr a b) (bk a b)).length : Nat), mid b (fr a b) (bk a b)⟩] := by
  rw [D_add a b h]
  unfold emitI
  rw [if_neg]
  rintro ⟨h3, h4⟩
  exact h2 ⟨by omega, h4⟩

end Go.Proofs.YtghnieddokhagaaDoor.Df
namespace Go.Proofs.YtghnieddokhagaaDoor.Al
open Go Go.RowKit Kt Kg Lw Li Df Kf

theorem OwE.blk {w : World} {B : Nat} {v : Value} {L : List Ed} (h : OwE w B v L) : ∀ g, v.ownBlock = some g → ∃ cs, Row w g tE cs := by
  intro g hg
  obtain ⟨V, _, hr, _⟩ := h
  rcases hr.2 with ⟨rfl, _⟩ | ⟨g', cap, cur, rfl, _, hgg, _⟩
  · cases hg
  · cases hg; exact ⟨cur.toList, by unfold Row; simpa using hgg⟩
theorem OwR.blk {w : World} {B : Nat} {v : Value} {L : List Rg} (h : OwR w B v L) : ∀ g, v.ownBlock = some g → ∃ cs, Row w g tR cs := by
  intro g hg
  rcases h.2 with ⟨rfl, _⟩ | ⟨g', cap, cur, rfl, _, hgg, _⟩
  · cases hg
  · cases hg; exact ⟨cur.toList, by unfold Row; simpa using hgg⟩
theorem OwN.blk {w : World} {B : Nat} {E : TypeId} {v : Value} {L : List Int} (h : OwN w B E v L) : ∀ g, v.ownBlock = some g → ∃ cs, Row w g E cs := by
  intro g hg
  rcases h.2 with ⟨rfl, _⟩ | ⟨g', cap, cur, rfl, _, hgg, _⟩
  · cases hg
  · cases hg; exact ⟨cur.toList, by unfold Row; simpa using hgg⟩
theorem owt_blk {w : World} {B : Nat} {E : TypeId} {v : Value} {L : Ls} (h : OwT w B E v L) : ∀ g, v.ownBlock = some g → ∃ cs, Row w g E cs := by
  intro g hg
  rcases h.2 with ⟨rfl, _⟩ | ⟨g', cap, cur, rfl, _, hgg, _⟩
  · cases hg
  · cases hg; exact ⟨cur.toList, by unfold Row; simpa using hgg⟩
theorem row_oth {w w' : World} {B : Nat} {e : TypeId} {size n : Nat} {v : Value} {xs : List Value} {S : Nat → Prop} (h : w.ownsRow B e size v n xs) (ho : Oth S w w') (hS : ∀ g, v.ownBlock = some g → ¬ S g) : w'.ownsRow B e size v n xs := by
  refine ⟨h.1, ?_⟩
  rcases h.2 with ⟨h1, h2⟩ | ⟨g, cap, cur, hv', h1, h2, h3⟩
  · exact .inl ⟨h1, h2⟩
  · exact .inr ⟨g, cap, cur, hv', h1, (ho.block g (Array.getElem?_eq_some_iff.1 h2).1 (hS g (by rw [hv']; rfl))).trans h2, h3⟩
/-- only rows of regions turn -/
def TyR (w : World) (S : Nat → Prop) : Prop := ∀ k t cs, S k → Row w k t cs → t = tR
theorem owe_oth {w w' : World} {B : Nat} {v : Value} {L : List Ed} {S : Nat → Prop} (h : OwE w B v L) (ho : Oth S w w') (hS : TyR w S) : OwE w' B v L := by
  have hb := OwE.blk h
  obtain ⟨V, hV, hr, hi⟩ := h
  refine ⟨V, hV, row_oth hr ho fun g hg hs => ?_, fun p hp => row_oth (hi p hp) ho fun g hg hs => ?_⟩
  · obtain ⟨cs, hc⟩ := hb g hg
    have := hS g _ _ hs hc
    simp [tE, tR] at this
  · obtain ⟨cs, hc⟩ := owt_blk (hi p hp) g hg
    have := hS g _ _ hs hc
    simp [tS, tR] at this
theorem own_oth {w w' : World} {B : Nat} {v : Value} {L : List Int} {S : Nat → Prop} (h : OwN w B tI v L) (ho : Oth S w w') (hS : TyR w S) : OwN w' B tI v L :=
  row_oth h ho fun g hg hs => by
    obtain ⟨cs, hc⟩ := OwN.blk h g hg
    have := hS g _ _ hs hc
    simp [tI, tR] at this
theorem own_base {w : World} {B B' : Nat} {E : TypeId} {v : Value} {l : List Int} (h : OwN w B E v l) (hb : B' ≤ B) : OwN w B' E v l :=
  ⟨h.1, h.2.imp id fun ⟨g, cap, cur, hv', h1, h2⟩ => ⟨g, cap, cur, hv', Nat.le_trans hb h1, h2⟩⟩
def lenV : Value → Nat
  | .slice _ n _ => n
  | _ => 0
theorem OwR.lenV {w : World} {B : Nat} {v : Value} {L : List Rg} (h : OwR w B v L) : lenV v = L.length := by
  obtain ⟨A, c, rfl, _⟩ := h.rgs
  rfl
theorem owe_empty (w : World) (B : Nat) (hB : B ≤ w.heap.size) : OwE (w.alloc (.cells #[] tE)) B (.slice (some ⟨w.heap.size, 0, none⟩) 0 0) [] :=
  ⟨[], rfl, World.ownsRow_lit (e := tE) (size := 3) w #[] 0 hB (Nat.zero_le _) rfl, fun p h => by cases h⟩
theorem app_at (F G : List Ed) (x : Nat) : (F ++ G).getD x ⟨0, 0, []⟩ = (el F G x).2 := by
  by_cases h : x < F.length
  · rw [el_left h, List.getD_eq_getElem?_getD, List.getElem?_append_left h, List.getD_eq_getElem?_getD]
  · rw [el_right h, List.getD_eq_getElem?_getD, List.getElem?_append_right (by omega), List.getD_eq_getElem?_getD]
theorem app_lay (F G : List Ed) : F ++ G = lay (F.length + G.length) fun i => (el F G i).2 := by
  have h := congrArg (List.map (·.2)) (range_els F G)
  rw [List.map_append, List.map_map, List.map_map, List.map_map] at h
  unfold lay
  simp only [Function.comp_def, List.map_id'] at h
  exact h.symm
/-- the edits, those gone through marked -/
def cur (F G : List Ed) (U : Nat → Bool) (i : Nat) : Ed := if U i = true then neg (el F G i).2 else (el F G i).2
/-- what holds where a round begins -/
structure RO (w0 wr : World) (o a b : Ls) (n : Nat) (v8 v9 v10 : Value) (R : List Int) (X Y Z : Nat) (V l : List (Bool × Ed)) (s : St) (U : Nat → Bool) : Prop where
  xyz : s.x = X ∧ s.y = Y ∧ s.z = Z
  inv : RInv o a b V s l
  lp : loop a b s l = loop a b ⟨0, 0, 0, []⟩ (mrg (D o a) (D o b))
  out : OwR wr w0.heap.size v10 s.l
  eds : OwE wr w0.heap.size v8 (lay n (cur (D o a) (D o b) U))
  mks : OwN wr w0.heap.size tI v9 R
  use : ∀ i, i < n → (U i = true ↔ el (D o a) (D o b) i ∈ V)
  low : Below w0.heap.size w0 wr
  cnt : s.l.length + 2 * l.length ≤ 2 * n
theorem kd_is {x y ss : Bool} {c : Cl} {u v : Ls} (h1 : x = true ↔ c.n0 ≠ 0) (h2 : y = true ↔ c.n1 ≠ 0) (h3 : c.n0 ≠ 0 ∨ c.n1 ≠ 0) (hs : ss = decide (u = v)) : (if x = false then (2 : Int) else if y = false then 1 else if ss = true then 3 else 4) = kindOf c u v := by
  unfold kindOf
  cases x
  · have n0 : c.n0 = 0 := by simpa using h1
    have n1 : c.n1 ≠ 0 := by omega
    simp [n0, n1]
  · have n0 : c.n0 ≠ 0 := h1.1 rfl
    cases y
    · have n1 : c.n1 = 0 := by simpa using h2
      simp [n0, n1]
    · have n1 : c.n1 ≠ 0 := h2.1 rfl
      simp [n0, n1, hs]
end Go.Proofs.YtghnieddokhagaaDoor.Al
namespace Go.Proofs.YtghnieddokhagaaDoor.Al
open Go Go.RowKit Kt Kg Lw Li Df Kf

theorem add_len' (a b : Ls) (s : St) (c : Cl) : (s.add a b c).l.length = s.l.length + 1 := by simp [St.add]
theorem keep_len' (a b : Ls) (s : St) (t : Int) : (s.keep a b t).l.length ≤ s.l.length + 1 := by
  unfold St.keep
  split
  · rw [add_len']; omega
  · omega
theorem keep_ge (a b : Ls) (s : St) (t : Int) : s.l.length ≤ (s.keep a b t).l.length := by
  unfold St.keep
  split
  · rw [add_len']; omega
  · omega
/-- the first edit that isn't gone through -/
theorem RInv.first {o a b : Ls} {V : List (Bool × Ed)} {s : St} {d : Bool} {e : Ed} {r : List (Bool × Ed)} {U : Nat → Bool} {N no X : Nat} {f1 f2 : Int} (h : RInv o a b V s ((d, e) :: r)) (hN : N = (D o a).length + (D o b).length) (hno : no = o.length) (hX : s.x = X)
    (hU : ∀ i, i < N → (U i = true ↔ el (D o a) (D o b) i ∈ V)) (hF : Fst (cur (D o a) (D o b) U) X (no + 1) N f1 f2) : ∃ f : Nat, f < N ∧ f1 = f ∧ f2 = e.pos ∧ el (D o a) (D o b) f ∈ clu d e r := by
  have hl := h.low
  obtain ⟨i0, hi0, he0⟩ := el_ex (F := D o a) (G := D o b) (p := (d, e)) (by rw [h.all]; simp)
  rw [← hN] at hi0
  have hu0 : U i0 = false := by
    cases hu : U i0
    · rfl
    · have hv := (hU i0 hi0).1 hu
      rw [he0] at hv
      exact absurd (by simp [clu] : (d, e) ∈ clu d e r) (h.apart (.inl hv))
  have hc0 : cur (D o a) (D o b) U i0 = e := by unfold cur; rw [hu0, he0]; simp
  have hle := hl (d, e) (by simp)
  simp only at hle
  rcases hF with ⟨h1, h2, h3⟩ | ⟨f, h1, h2, h3, h4, h5, h6⟩
  · exfalso
    have := h3 i0 hi0
    rw [hc0] at this
    omega
  · have huf : U f = false := by
      cases hu : U f
      · rfl
      · unfold cur at h4
        rw [if_pos hu] at h4
        simp only [neg] at h4
        omega
    have hcf : cur (D o a) (D o b) U f = (el (D o a) (D o b) f).2 := by unfold cur; rw [huf]; simp
    have hmem := el_mem (F := D o a) (G := D o b) (i := f) (by omega)
    have hmr : el (D o a) (D o b) f ∈ (d, e) :: r := by
      rw [h.all] at hmem
      rcases List.mem_append.1 hmem with hm | hm
      · rw [(hU f h1).2 hm] at huf; cases huf
      · exact hm
    have hge : e.pos ≤ (el (D o a) (D o b) f).2.pos := by
      rcases List.mem_cons.1 hmr with hm | hm
      · rw [hm]; exact Int.le_refl _
      · exact (List.pairwise_cons.1 h.inv.srt).1 _ hm
    have hmin := h6 i0 hi0 (by rw [hc0]; omega)
    rw [hc0, hcf] at hmin
    rw [hcf] at h3
    have hlf := hl _ hmr
    refine ⟨f, h1, h2, by omega, h.closed (p := (d, e)) (by simp [clu]) hmem (meetE_iff.2 ⟨?_, ?_⟩)⟩
    · simp only; omega
    · simp only; omega
theorem RInv.none {o a b : Ls} {V : List (Bool × Ed)} {s : St} {U : Nat → Bool} {N no X : Nat} {f1 f2 : Int} (h : RInv o a b V s []) (hN : N = (D o a).length + (D o b).length)
    (hU : ∀ i, i < N → (U i = true ↔ el (D o a) (D o b) i ∈ V)) (hF : Fst (cur (D o a) (D o b) U) X (no + 1) N f1 f2) : f1 = -1 ∧ f2 = no + 1 := by
  rcases hF with ⟨h1, h2, _⟩ | ⟨f, h1, h2, h3, h4, h5, h6⟩
  · exact ⟨h1, h2⟩
  · exfalso
    have hmem := el_mem (F := D o a) (G := D o b) (i := f) (by omega)
    rw [h.all, List.append_nil] at hmem
    have hu := (hU f h1).2 hmem
    unfold cur at h4
    rw [if_pos hu] at h4
    simp only [neg] at h4
    omega
end Go.Proofs.YtghnieddokhagaaDoor.Al
namespace Go.Proofs.YtghnieddokhagaaDoor.Li
open Go Go.RowKit Kt Lw

theorem texts_last (q : List (List UInt8)) (x : List UInt8) : (texts (q ++ [x]))[q.length]? = some (.string ⟨x.toArray⟩) := by simp [texts]
theorem texts_set (q : List (List UInt8)) (x y : List UInt8) : (texts (q ++ [x])).set q.length (.string ⟨y.toArray⟩) = texts (q ++ [y]) := by
  simp [texts]
theorem cut_one (s : List UInt8) (k : Nat) (h : k < s.length) : (ByteArray.mk s.toArray).extract k (k + 1) = ⟨[s.getD k 0].toArray⟩ := by
  have e : s.getD k 0 = s[k] := by simp [List.getElem?_eq_getElem h]
  have e2 : (s.drop k).take 1 = [s[k]] := by rw [List.drop_eq_getElem_cons h]; rfl
  apply ByteArray.ext
  rw [e, ByteArray.data_extract]
  apply Array.ext'
  simp [e2]
theorem closed_false_of (b : UInt8) (p : List UInt8) : (!closed (p ++ [b])) = ((b.toNat : Int) != 10) := by
  rw [closed_snoc, bne, ten_of]

end Go.Proofs.YtghnieddokhagaaDoor.Li
namespace Go.Proofs.YtghnieddokhagaaDoor.Li
open Go Go.RowKit Kt Lw

theorem flat_snoc (l : List (List UInt8)) (k : Nat) (h : k < l.length) : (l.take (k + 1)).flatten = (l.take k).flatten ++ l.getD k [] := by
  rw [List.take_succ_eq_append_getElem h, List.flatten_append]; simp [List.getElem?_eq_getElem h]
end Go.Proofs.YtghnieddokhagaaDoor.Li
namespace Go.Proofs.YtghnieddokhagaaDoor.Tr
open Go Go.RowKit Kt Lw Li Lx Df Al

theorem get_le {t : List Fl} {p : Bs} {n : Nat} (h : ∀ f ∈ t, f.text.length ≤ n) : (get t p).1.length ≤ n := by
  cases hb : (get t p).2 with
  | true =>
    obtain ⟨f, hf, _, e⟩ := get_some hb
    rw [e]; exact h f hf
  | false => rw [get_empty hb]; exact Nat.zero_le _
end Go.Proofs.YtghnieddokhagaaDoor.Tr
namespace Go.Proofs.YtghnieddokhagaaDoor.Tr
open Go Go.RowKit Kt Lw Li Lx Df

theorem addP_take {t : List Fl} {k : Nat} {f : Fl} (h : t[k]? = some f) : addP [] (t.take (k + 1)) = insP f.path (addP [] (t.take k)) := by
  obtain ⟨hk, e⟩ := List.getElem?_eq_some_iff.1 h
  unfold addP
  rw [List.take_succ_eq_append_getElem hk, e, List.foldl_append]
  rfl
theorem addP_full (a b : List Fl) : addP [] ((a ++ b).take (a.length + b.length)) = both a b := by
  rw [← List.length_append, List.take_length]
  unfold addP both addP
  rw [List.foldl_append]
/-- what is done is so much of what is to do -/
def goes (p : Bs) (l : List Bs) (k : Nat) (dn : Bool) (acc : List Bs) : Prop := acc.length ≤ 2 * k ∧ insP p l = acc ++ insR p dn (l.drop k)
theorem goes.zero (p : Bs) (l : List Bs) : goes p l 0 false [] := ⟨Nat.le_refl _, by rw [List.drop_zero, insR_is]; rfl⟩
theorem goes.past {p q : Bs} {l acc : List Bs} {k : Nat} {dn : Bool} (h : goes p l k dn acc) (hd : l.drop k = q :: l.drop (k + 1)) (hq : (dn || q == p) = true) : goes p l (k + 1) true (acc ++ [q]) := by
  refine ⟨by have := h.1; simp only [List.length_append, List.length_cons, List.length_nil]; omega, ?_⟩
  rw [h.2, hd, insR, hq, List.append_assoc]; rfl
theorem goes.here {p q : Bs} {l acc : List Bs} {k : Nat} (h : goes p l k false acc) (hd : l.drop k = q :: l.drop (k + 1)) (hq : (q == p) = false) (hl : lt p q = true) : goes p l (k + 1) true ((acc ++ [p]) ++ [q]) := by
  refine ⟨by have := h.1; simp only [List.length_append, List.length_cons, List.length_nil]; omega, ?_⟩
  rw [h.2, hd, insR, hq, hl, List.append_assoc, List.append_assoc]; rfl
theorem goes.ahead {p q : Bs} {l acc : List Bs} {k : Nat} (h : goes p l k false acc) (hd : l.drop k = q :: l.drop (k + 1)) (hq : (q == p) = false) (hl : lt p q = false) : goes p l (k + 1) false (acc ++ [q]) := by
  refine ⟨by have := h.1; simp only [List.length_append, List.length_cons, List.length_nil]; omega, ?_⟩
  rw [h.2, hd, insR, hq, hl, List.append_assoc]; rfl
theorem goes.full {p : Bs} {l acc : List Bs} (h : goes p l l.length true acc) : acc = insP p l := by
  rw [h.2, List.drop_length]; simp [insR]
theorem goes.last {p : Bs} {l acc : List Bs} (h : goes p l l.length false acc) : acc ++ [p] = insP p l := by
  rw [h.2, List.drop_length]; rfl
theorem insP_mem_le {p : Bs} {l : List Bs} {n : Nat} (hp : p.length ≤ n) (hl : ∀ q ∈ l, q.length ≤ n) : ∀ q ∈ insP p l, q.length ≤ n := by
  intro q hq
  rcases mem_insP.1 hq with rfl | h
  · exact hp
  · exact hl q h
theorem drop_getD {l : List Bs} {j : Nat} (h : j < l.length) : l.drop j = l.getD j [] :: l.drop (j + 1) := by
  rw [List.getD_eq_getElem?_getD, List.getElem?_eq_getElem h]; exact List.drop_eq_getElem_cons h
theorem mem_getD {l : List Bs} {j : Nat} (h : j < l.length) : l.getD j [] ∈ l := by
  rw [List.getD_eq_getElem?_getD, List.getElem?_eq_getElem h]; exact List.getElem_mem h
theorem owt_low {w : World} {B B' : Nat} {v : Value} {l : Ls} (h : OwT w B tS v l) (hb : B' ≤ B) : OwT w B' tS v l :=
  ⟨h.1, h.2.imp id fun ⟨g, cap, cur, hv', h1, h2⟩ => ⟨g, cap, cur, hv', Nat.le_trans hb h1, h2⟩⟩
end Go.Proofs.YtghnieddokhagaaDoor.Tr
namespace Go.Proofs.YtghnieddokhagaaDoor.Tr
open Go Go.RowKit Kt Lw Li Lx Df Al

theorem outs_take {h : Bs → Bs × Bool × Bool} {l : List Bs} {k : Nat} (hk : k < l.length) : outs h (l.take (k + 1)) = outs h (l.take k) ++ (if (h l[k]).2.1 then [⟨l[k], (h l[k]).1⟩] else []) := by
  rw [List.take_succ_eq_append_getElem hk]
  generalize l[k] = p
  induction l.take k with
  | nil => rw [List.nil_append, outs, outs, List.nil_append]; split <;> rfl
  | cons q l ih =>
    rw [List.cons_append, outs, ih, outs]
    split
    · rw [List.cons_append]
    · rfl
theorem odds_take {h : Bs → Bs × Bool × Bool} {l : List Bs} {k : Nat} (hk : k < l.length) : odds h (l.take (k + 1)) = odds h (l.take k) ++ (if (h l[k]).2.2 then [l[k]] else []) := by
  rw [List.take_succ_eq_append_getElem hk]
  unfold odds
  rw [List.filter_append]
  congr 1
  cases hc : (h l[k]).2.2 <;> simp [hc]
theorem outs_step {h : Bs → Bs × Bool × Bool} {l : List Bs} {k : Nat} {p x : Bs} {c : Bool} (hk : k < l.length) (hp : p = l.getD k []) (hx : h p = (x, true, c)) : outs h (l.take (k + 1)) = outs h (l.take k) ++ [⟨p, x⟩] := by
  rw [List.getD_eq_getElem?_getD, List.getElem?_eq_getElem hk] at hp
  obtain rfl : p = l[k] := hp
  rw [outs_take hk, hx]; rfl
theorem outs_stay {h : Bs → Bs × Bool × Bool} {l : List Bs} {k : Nat} {p x : Bs} {c : Bool} (hk : k < l.length) (hp : p = l.getD k []) (hx : h p = (x, false, c)) : outs h (l.take (k + 1)) = outs h (l.take k) := by
  rw [List.getD_eq_getElem?_getD, List.getElem?_eq_getElem hk] at hp
  obtain rfl : p = l[k] := hp
  rw [outs_take hk, hx]; exact List.append_nil _
theorem odds_step {h : Bs → Bs × Bool × Bool} {l : List Bs} {k : Nat} {p x : Bs} {b : Bool} (hk : k < l.length) (hp : p = l.getD k []) (hx : h p = (x, b, true)) : odds h (l.take (k + 1)) = odds h (l.take k) ++ [p] := by
  rw [List.getD_eq_getElem?_getD, List.getElem?_eq_getElem hk] at hp
  obtain rfl : p = l[k] := hp
  rw [odds_take hk, hx]; rfl
theorem odds_stay {h : Bs → Bs × Bool × Bool} {l : List Bs} {k : Nat} {p x : Bs} {b : Bool} (hk : k < l.length) (hp : p = l.getD k []) (hx : h p = (x, b, false)) : odds h (l.take (k + 1)) = odds h (l.take k) := by
  rw [List.getD_eq_getElem?_getD, List.getElem?_eq_getElem hk] at hp
  obtain rfl : p = l[k] := hp
  rw [odds_take hk, hx]; exact List.append_nil _
theorem take_more {t : List Fl} {L : List Fl} (h : L = t.take 1000) (e : Fl) : (t ++ [e]).take 1000 = if L.length < 1000 then L ++ [e] else L := by
  subst h
  rw [List.length_take]
  split
  · rw [List.take_of_length_le (by rw [List.length_append, List.length_singleton]; omega), List.take_of_length_le (by omega)]
  · rw [List.take_append_of_le_length (by omega)]
/-- a row of files and a row of texts are not the same -/
theorem own_two {w : World} {B B' : Nat} {v u : Value} {L : List Fl} {l : Ls} (h : OwF w B v L) (h2 : OwT w B' tS u l) {g : Nat} (hv : v.ownBlock = some g) (hu : u.ownBlock = some g) : False := by
  rcases h.2 with ⟨rfl, _⟩ | ⟨g1, cap, cur, rfl, _, e1, _⟩
  · cases hv
  · rcases h2.2 with ⟨rfl, _⟩ | ⟨g2, cap2, cur2, rfl, _, e2, _⟩
    · cases hu
    · simp only [Value.ownBlock, Option.some.injEq] at hv hu
      subst hv
      subst hu
      rw [e1] at e2
      simp only [Option.some.injEq, Obj.cells.injEq] at e2
      exact absurd e2.2.1 (by decide)
theorem owf_keep {w w' : World} {B B' : Nat} {v u : Value} {L : List Fl} {l : Ls} (h : OwF w B v L) (h2 : OwT w B' tS u l) (hg : w.grownBy w' u.ownBlock) : OwF w' B v L :=
  h.grown hg fun _ e e2 => own_two h h2 e e2.symm
theorem owt_keep {w w' : World} {B B' : Nat} {v u : Value} {L : List Fl} {l : Ls} (h2 : OwT w B' tS u l) (h : OwF w B v L) (hg : w.grownBy w' v.ownBlock) : OwT w' B' tS u l := by
  refine ⟨h2.1, ?_⟩
  rcases h2.2 with ⟨h3, h4⟩ | ⟨g, cap, cur, hv', h3, h4, h5⟩
  · exact .inl ⟨h3, h4⟩
  · exact .inr ⟨g, cap, cur, hv', h3, (hg.block g (Array.getElem?_eq_some_iff.1 h4).1 fun e => own_two h h2 e.symm (by rw [hv']; rfl)).trans h4, h5⟩
end Go.Proofs.YtghnieddokhagaaDoor.Tr
