/-
  Rows of whole numbers that the call itself owns: append of one.
-/
import Derived.Test.YtghnieddokhagaaQTA
namespace Go.Proofs.Ytghnieddokhagaa.Kt
open Go Go.RowKit Lw

/-- a list of whole numbers in a row of the call's own (E: the number of the type int) -/
def OwN (w : World) (B : Nat) (E : TypeId) (v : Value) (l : List Int) : Prop := w.ownsRow B E 1 v l.length (nums .i64 l)
theorem nums_append (l r : List Int) : nums .i64 (l ++ r) = nums .i64 l ++ nums .i64 r := by simp [nums]
theorem nums_one (l : List Int) : ∀ v ∈ nums .i64 l, v.oneCell' = true := by
  intro v hv; simp only [nums, List.mem_map] at hv; obtain ⟨_, _, rfl⟩ := hv; rfl
section
variable {w w' : World} {B : Nat} {E : TypeId} {v : Value} {l : List Int}
theorem OwN.nil (w : World) (B : Nat) (E : TypeId) : OwN w B E (.slice none 0 0) [] := World.ownsRow_nil w B E 1
theorem OwN.alloc (h : OwN w B E v l) (o : Obj) : OwN (w.alloc o) B E v l := World.ownsRow.alloc h o
theorem OwN.drew (h : OwN w B E v l) : OwN w.drew B E v l := h
theorem OwN.drewN (h : OwN w B E v l) (n : Nat) : OwN (w.drewN n) B E v l := h
theorem OwN.below (h : OwN w B E v l) {B' : Nat} (hb : Below B' w w') (hv : ∀ g, v.ownBlock = some g → g < B') : OwN w' B E v l := by
  refine ⟨h.1, ?_⟩
  rcases h.2 with ⟨h1, h2⟩ | ⟨g, cap, cur, hv', h1, h2, h3⟩
  · exact .inl ⟨h1, h2⟩
  · exact .inr ⟨g, cap, cur, hv', h1, (hb.block g (hv g (by rw [hv']; rfl))).trans h2, h3⟩
theorem OwN.kept (h : OwN w B E v l) (hb : Below w.heap.size w w') : OwN w' B E v l := h.below hb fun g hg => (World.ownsRow.lt h g hg).2
/-- the row's own block, its cells -/
theorem OwN.form (h : OwN w B E v l) (hn : 0 < l.length) : ∃ g cap, v = .slice (some ⟨g, 0, none⟩) l.length cap ∧ B ≤ g ∧ g < w.heap.size ∧ ∀ j x, l[j]? = some x → w.cell? ⟨g, j, none⟩ = some (.int .i64 x) := by
  obtain ⟨g, cap, rfl, hB, hg⟩ := World.ownsRow.form h hn
  refine ⟨g, cap, rfl, hB, hg, fun j x hj => ?_⟩
  have hlt : j < l.length := (List.getElem?_eq_some_iff.1 hj).1
  have := World.ownsRow.cellAt (cap := cap) h j (by omega)
  rw [this]
  simp [nums, hj]
end
/-- append(s, one number) -/
theorem wp_pushN {P : Program} {o : Oper} {a : Act} {K : Act → World → Prop} {Q : Exit → Act → World → Prop} {W : World} {E : TypeId} (s x : Operand) (t : TypeId)
    (ho : o.op = .call { callee := .builtin .append, args := #[s, x], argTypes := #[t, t] })
    (ht : P.underlying t = some (.slice E)) (hi : (P.info? E).map (fun i => (i.zero, i.size, i.bytes)) = some (some (.int .i64 0), 1, 8))
    (B : Nat) (w0 : World) (v : Value) (l : List Int) (y : Int) (cs : Array Value) (hs : a.eval s = v) (hx : a.eval x = .slice (some ⟨W.heap.size, 0, none⟩) 1 1) (hc : cs = #[.int .i64 y])
    (hown : OwN W B E v l) (hlen : l.length + 1 ≤ 1000000000) (hb : Below B w0 W) (hbase : B ≤ W.heap.size)
    (h : ∀ v' w', OwN w' B E v' (l ++ [y]) → Below B w0 w' → W.grownBy w' v.ownBlock → K (a.put o.dst v') w') : o.wp P a (W.alloc (.cells cs E)) K Q := by
  obtain ⟨i0, hi0, hz0, hz1, hz2⟩ := info_parts hi
  subst hc
  refine wp_append_own _ s x t ho B E i0 (.int .i64 0) 1 8 ht hi0 hz0 hz1 hz2 rfl (by omega) v l.length (nums .i64 l) hs (World.ownsRow.alloc hown _)
    ⟨W.heap.size, 0, none⟩ 1 1 (nums .i64 [y]) hx rfl (fun j u hu => ?_) (nums_one [y]) (by unfold maxLen; omega) (by omega) (by simp; omega) (fun v' w' h1 h2 _ => ?_)
  · rw [Addr.add_mid, (Row.fresh W E #[.int .i64 y]).cell, Nat.zero_add]
    exact hu
  · have hg := grownBy_back _ h2
    refine h v' w' ?_ (hb.grown hg hbase fun k hk => (World.ownsRow.lt hown k hk).1) hg
    unfold OwN
    rw [List.length_append, nums_append]
    exact h1
theorem wpList_pushN {P : Program} {ops : Array Oper} {rest : List Oper} {o : Oper} {a : Act} {Q : Exit → Act → World → Prop} {W : World} {E : TypeId} (hgd : o.guard = none) (s x : Operand) (t : TypeId)
    (ho : o.op = .call { callee := .builtin .append, args := #[s, x], argTypes := #[t, t] })
    (ht : P.underlying t = some (.slice E)) (hi : (P.info? E).map (fun i => (i.zero, i.size, i.bytes)) = some (some (.int .i64 0), 1, 8))
    (B : Nat) (w0 : World) (v : Value) (l : List Int) (y : Int) (cs : Array Value) (hs : a.eval s = v) (hx : a.eval x = .slice (some ⟨W.heap.size, 0, none⟩) 1 1) (hc : cs = #[.int .i64 y])
    (hown : OwN W B E v l) (hlen : l.length + 1 ≤ 1000000000) (hb : Below B w0 W) (hbase : B ≤ W.heap.size)
    (h : ∀ v' w', OwN w' B E v' (l ++ [y]) → Below B w0 w' → W.grownBy w' v.ownBlock → wpList P ops Q rest (a.put o.dst v') w') : wpList P ops Q (o :: rest) a (W.alloc (.cells cs E)) :=
  wpList_plain hgd fun _ hK => wp_pushN s x t ho ht hi B w0 v l y cs hs hx hc hown hlen hb hbase fun v' w' h1 h2 h3 => hK _ _ (h v' w' h1 h2 h3)
end Go.Proofs.Ytghnieddokhagaa.Kt
