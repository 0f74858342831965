/-
  A row of bytes that may have been cut with three indices: its block may be longer than its room. append onto it.
-/
import Derived.Test.YtahcokfoifdlmaaKitB
import Derived.Test.YtahcokfoifdlmaaKG
namespace Go.Proofs.Ytahcokfoifdlmaa.Dk
open Go Go.RowKit Kt Kg

/-- bytes in a block of which S holds; behind its room the block may go on -/
def OwnS (w : World) (S : Nat → Prop) (E : TypeId) (v : Value) (l : List UInt8) : Prop :=
  (v = .slice none 0 0 ∧ l = []) ∨ ∃ g cap cur, v = .slice (some ⟨g, 0, none⟩) l.length cap ∧ S g ∧ w.heap[g]? = some (.cells cur E (0, 0)) ∧ l.length ≤ cap ∧ cap ≤ maxLen ∧ cap ≤ cur.size ∧ cur.toList.take l.length = u8s l
section
variable {w w' : World} {S T : Nat → Prop} {E : TypeId} {v : Value} {l : List UInt8}
theorem OwnS.nil (w : World) (S : Nat → Prop) (E : TypeId) : OwnS w S E (.slice none 0 0) [] := .inl ⟨rfl, rfl⟩
theorem OwnS.of {B : Nat} (h : Own w B E v l) : OwnS w (fun b => B ≤ b ∧ v.ownBlock = some b) E v l := by
  rcases h.2 with ⟨rfl, h0⟩ | ⟨g, cap, cur, rfl, hB, hg, hnc, hcm, hs, ht⟩
  · exact .inl ⟨rfl, List.eq_nil_of_length_eq_zero h0⟩
  · exact .inr ⟨g, cap, cur, rfl, ⟨hB, rfl⟩, hg, hnc, hcm, by omega, by rw [← ht, Nat.mul_one]⟩
theorem OwnS.imp (h : OwnS w S E v l) (hi : ∀ b, b < w.heap.size → S b → T b) : OwnS w T E v l := by
  rcases h with h | ⟨g, cap, cur, h1, h2, h3, h4⟩
  · exact .inl h
  · exact .inr ⟨g, cap, cur, h1, hi g (Array.getElem?_eq_some_iff.1 h3).1 h2, h3, h4⟩
theorem OwnS.move (h : OwnS w S E v l) (hk : ∀ b, S b → b < w.heap.size → w'.heap[b]? = w.heap[b]?) : OwnS w' S E v l := by
  rcases h with h | ⟨g, cap, cur, h1, h2, h3, h4⟩
  · exact .inl h
  · exact .inr ⟨g, cap, cur, h1, h2, (hk g h2 (Array.getElem?_eq_some_iff.1 h3).1).trans h3, h4⟩
theorem OwnS.oth (h : OwnS w S E v l) (ho : Oth T w w') (hd : ∀ k, S k → ¬ T k) : OwnS w' S E v l := h.move fun b hb hlt => ho.block b hlt (hd b hb)
theorem OwnS.sl (h : OwnS w S E v l) : ∃ A c, v = .slice A l.length c ∧ Sl w S A c l := by
  rcases h with ⟨rfl, rfl⟩ | ⟨g, cap, cur, rfl, hS, hg, hnc, _, hs, ht⟩
  · exact ⟨none, 0, rfl, Sl.nil _ _ _ _⟩
  · refine ⟨_, cap, rfl, hnc, fun _ => ⟨g, 0, rfl, hS, fun j hj => ?_⟩⟩
    rw [Nat.zero_add, cell_of_row w g j cur E (0, 0) hg]
    have h1 := u8s_get l j hj
    rw [← ht, List.getElem?_take, if_pos hj] at h1
    simpa using h1
theorem OwnS.block (h : OwnS w S E v l) {g : Nat} (hg : v.ownBlock = some g) : S g ∧ g < w.heap.size := by
  rcases h with ⟨rfl, _⟩ | ⟨g', cap, cur, rfl, hS, hh, _⟩
  · cases hg
  · obtain rfl : g' = g := by simpa [Value.ownBlock] using hg
    exact ⟨hS, (Array.getElem?_eq_some_iff.1 hh).1⟩
/-- its first bytes, with three indices -/
theorem OwnS.cut (h : OwnS w S E v l) {k : Nat} (hk : k ≤ l.length) : ∃ A c, v = .slice A l.length c ∧ l.length ≤ c ∧ OwnS w S E (.slice A k k) (l.take k) := by
  rcases h with ⟨rfl, rfl⟩ | ⟨g, cap, cur, rfl, hS, hg, hnc, hcm, hs, ht⟩
  · obtain rfl : k = 0 := by simpa using hk
    exact ⟨none, 0, rfl, Nat.le_refl _, .inl ⟨rfl, rfl⟩⟩
  · have e : (l.take k).length = k := by rw [List.length_take]; omega
    refine ⟨_, cap, rfl, hnc, .inr ⟨g, k, cur, by rw [e], hS, hg, by rw [e]; exact Nat.le_refl _, by omega, by omega, ?_⟩⟩
    have h1 := congrArg (List.take k) ht
    rw [List.take_take, Nat.min_eq_left hk] at h1
    rw [e, h1]
    simp [u8s, List.map_take]
end

theorem run_catS {P : Program} {w : World} {t ty E : TypeId} (ht : P.underlying t = some (.slice E)) (hi : (P.info? E).map (fun i => (i.zero, i.size, i.bytes)) = some (some (.int .u8 0), 1, 1))
    {S : Nat → Prop} {v : Value} {l bs : List UInt8} {Pb : Nat → Prop} {A : Option Addr} {c : Nat} (hown : OwnS w S E v l) (hsl : Sl w Pb A c bs) (hlen : l.length + bs.length ≤ 70368744177664) :
    ∃ v' w', (Builtin.append_ #[t, t] ty #[v, .slice A bs.length c]).run P w = .ok v' w' ∧ OwnS w' (fun k => S k ∨ k = w.heap.size) E v' (l ++ bs) ∧ w.grownBy w' v.ownBlock := by
  obtain ⟨i, hi0, hz0, hz1, hz2⟩ := info_parts hi
  have small : ∀ n, n ≤ 70368744177664 → n ≤ maxLen := fun n h => by unfold maxLen; omega
  cases A with
  | none =>
    have h0 : bs = [] := by
      cases bs with
      | nil => rfl
      | cons b r => obtain ⟨_, _, he, _⟩ := hsl.2 (by simp); cases he
    subst h0
    rw [List.append_nil]
    rcases hown with ⟨rfl, rfl⟩ | ⟨g, cap, cur, rfl, hS, hg, hnc, hcm, hs, htk⟩
    · refine ⟨.slice none 0 0, w, ?_, .inl ⟨rfl, rfl⟩, World.grownBy.refl _ _⟩
      simp [Builtin.append_, run_underlying ht, sizeOf, typeInfo, hi0, Builtin.lenOf, Builtin.firstCells]
    · refine ⟨_, w, ?_, .inr ⟨g, cap, cur, rfl, .inl hS, hg, hnc, hcm, hs, htk⟩, World.grownBy.refl _ _⟩
      simp [Builtin.append_, run_underlying ht, sizeOf, typeInfo, hi0, Builtin.lenOf, Builtin.firstCells, hnc, storeCells]
  | some ad =>
    have hnews : ∀ j u, (u8s bs)[j]? = some u → w.cell? (ad.add j) = some u := fun j u hu => by
      have hj : j < bs.length := by have := (List.getElem?_eq_some_iff.1 hu).1; rwa [u8s_len] at this
      obtain ⟨b, k, he, _, hc⟩ := hsl.cells (by omega)
      injection he with he
      subst he
      rw [Addr.add_mid]
      exact hc j u hu
    rcases hown with ⟨rfl, rfl⟩ | ⟨g, cap, cur, rfl, hS, hg, hnc, hcm, hs, htk⟩
    · obtain ⟨v', w', hr, h1, h2, _⟩ := run_append_own (P := P) w w.heap.size t ty E i (.int .u8 0) 1 1 ht hi0 hz0 hz1 hz2 rfl (by omega) (.slice none 0 0) 0 [] (World.ownsRow_nil _ _ _ _) ad bs.length c (u8s bs) (by simp [u8s_len]) hnews (u8s_one bs) (small _ (by simp at hlen; omega)) (by simp at hlen; omega) (Nat.le_refl _)
      have ho : Own w' w.heap.size E v' bs := by unfold Own; simpa using h1
      refine ⟨v', w', hr, ?_, h2⟩
      rw [List.nil_append]
      by_cases hb0 : bs = []
      · subst hb0
        rcases ho.2 with ⟨rfl, _⟩ | ⟨g, cap, cur, rfl, hB, hg, hnc, hcm, hs, htk⟩
        · exact .inl ⟨rfl, rfl⟩
        · simp [Builtin.append_, run_underlying ht, sizeOf, typeInfo, hi0, Builtin.lenOf, Builtin.firstCells, loadCells, loadCellsFrom] at hr
      · have hbl : 0 < bs.length := List.length_pos_iff.2 hb0
        have hr2 := run_append_nil (P := P) w t ty E i (.int .u8 0) ht hi0 hz0 ad bs.length c (u8s bs) (by simp [u8s_len, hz1]) hnews (by omega) (by simp at hlen; omega) (by rw [hz2]; simp at hlen; omega)
        rw [hr] at hr2
        injection hr2 with e1 e2
        subst e1 e2
        rcases ho.2 with ⟨h, _⟩ | ⟨g, cap, cur, hv, hB, hg, hnc, hcm, hs, htk⟩
        · cases h
        · have hgs : g = w.heap.size := by injection hv with hv1 _ _; injection hv1 with hv1; injection hv1 with hv1 _ _; exact hv1.symm
          exact .inr ⟨g, cap, cur, hv, .inr hgs, hg, hnc, hcm, by omega, by rw [← htk, Nat.mul_one]⟩
    · have hx : (u8s l).length = l.length * i.size := by rw [hz1, u8s_len, Nat.mul_one]
      have hy : (u8s bs).length = bs.length * i.size := by rw [hz1, u8s_len, Nat.mul_one]
      by_cases hroom : l.length + bs.length ≤ cap
      · have hr := run_append_room (P := P) w t ty E i ht hi0 g l.length cap cur hg ad bs.length c (u8s bs) hy hnews (u8s_one bs) hroom (by rw [hz1, u8s_len]; omega)
        rw [hz1, Nat.mul_one] at hr
        refine ⟨_, _, hr, .inr ⟨g, cap, _, by rw [List.length_append], .inl hS, setRow_heap w g cur _ E _ hg, by rw [List.length_append]; exact hroom, hcm, ?_, ?_⟩, ⟨rfl, rfl, rfl, by simp, fun k _ hk => setRow_other w g k _ (fun e => hk (by simp [Value.ownBlock, e]))⟩⟩
        · simp only [List.size_toArray, List.length_append, List.length_take, List.length_drop, Array.length_toList, u8s_len]
          omega
        · rw [htk, List.length_append, ← u8s_append, ← List.length_append, ← u8s_len (l ++ bs)]
          exact List.take_left
      · have holds : ∀ j u, (u8s l)[j]? = some u → w.cell? ((⟨g, 0, none⟩ : Addr).add j) = some u := fun j u hu => by
          rw [Addr.add_mid, Nat.zero_add, cell_of_row w g j cur E (0, 0) hg]
          rw [← htk, List.getElem?_take] at hu
          split at hu
          · simpa using hu
          · cases hu
        have hr := run_append_grow (P := P) w t ty E i (.int .u8 0) ht hi0 hz0 ⟨g, 0, none⟩ l.length cap (u8s l) hx holds ad bs.length c (u8s bs) hy hnews (by omega) (by omega) (growslice_fits (by omega) (by rw [hz2]; omega))
        have hge := grownCap_ge w (l.length + bs.length) cap E
        have hcm : grownCap w (l.length + bs.length) cap E ≤ maxLen := grownCap_le_maxLen w (l.length + bs.length) cap E (small _ hlen)
        refine ⟨_, _, hr, .inr ⟨w.heap.size, _, _, by rw [List.length_append], .inr rfl, heap_alloc_new w.drew _, by rw [List.length_append]; exact hge, hcm, ?_, ?_⟩, ⟨rfl, rfl, rfl, by simp, fun k hk _ => Below.heap_alloc w.drew _ k hk⟩⟩
        · simp only [Array.size_append, List.size_toArray, size_zeroCells, u8s_len]
          have : (Value.cells (.int .u8 0)).size = 1 := rfl
          rw [this]
          omega
        · simp only [Array.toList_append, List.append_assoc]
          rw [← List.append_assoc, ← u8s_append, ← u8s_len (l ++ bs)]
          exact List.take_left
theorem wp_catS {P : Program} {o : Oper} {a : Act} {K : Act → World → Prop} {Q : Exit → Act → World → Prop} {w : World} {E : TypeId}
    (s x : Operand) (t : TypeId) (ho : o.op = .call { callee := .builtin .append, args := #[s, x], argTypes := #[t, t] })
    (ht : P.underlying t = some (.slice E)) (hi : (P.info? E).map (fun i => (i.zero, i.size, i.bytes)) = some (some (.int .u8 0), 1, 1))
    (S : Nat → Prop) (v : Value) (l bs : List UInt8) (Pb : Nat → Prop) (A : Option Addr) (c : Nat) (hs : a.eval s = v) (hx : a.eval x = .slice A bs.length c)
    (hown : OwnS w S E v l) (hsl : Sl w Pb A c bs) (hlen : l.length + bs.length ≤ 70368744177664)
    (h : ∀ v' w', OwnS w' (fun k => S k ∨ k = w.heap.size) E v' (l ++ bs) → w.grownBy w' v.ownBlock → K (a.put o.dst v') w') : o.wp P a w K Q := by
  obtain ⟨v', w', hr, h1, h2⟩ := run_catS (P := P) (ty := o.type) ht hi hown hsl hlen
  unfold Oper.wp execOp
  simp only [ho, resolve, invoke, builtin, Sem.run_bind, Sem.run_pure, Result.andThen_ok, List.map_toArray, List.map_cons, List.map_nil, hs, hx, hr]
  exact h v' w' h1 h2
theorem wpList_catS {P : Program} {ops : Array Oper} {rest : List Oper} {o : Oper} {a : Act} {Q : Exit → Act → World → Prop} {w : World} {E : TypeId}
    (hgd : o.guard = none) (s x : Operand) (t : TypeId) (ho : o.op = .call { callee := .builtin .append, args := #[s, x], argTypes := #[t, t] })
    (ht : P.underlying t = some (.slice E)) (hi : (P.info? E).map (fun i => (i.zero, i.size, i.bytes)) = some (some (.int .u8 0), 1, 1))
    (S : Nat → Prop) (v : Value) (l bs : List UInt8) (Pb : Nat → Prop) (A : Option Addr) (c : Nat) (hs : a.eval s = v) (hx : a.eval x = .slice A bs.length c)
    (hown : OwnS w S E v l) (hsl : Sl w Pb A c bs) (hlen : l.length + bs.length ≤ 70368744177664)
    (h : ∀ v' w', OwnS w' (fun k => S k ∨ k = w.heap.size) E v' (l ++ bs) → w.grownBy w' v.ownBlock → wpList P ops Q rest (a.put o.dst v') w') : wpList P ops Q (o :: rest) a w :=
  wpList_plain hgd fun _ hK => wp_catS s x t ho ht hi S v l bs Pb A c hs hx hown hsl hlen fun v' w' h1 h2 => hK _ _ (h v' w' h1 h2)
end Go.Proofs.Ytahcokfoifdlmaa.Dk
