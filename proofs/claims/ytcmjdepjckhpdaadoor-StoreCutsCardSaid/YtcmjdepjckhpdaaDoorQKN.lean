/-
  Rows of whole numbers that the call itself owns: append of one.
-/
import Derived.Test.YtcmjdepjckhpdaaDoorQSF
import Derived.Test.YtcmjdepjckhpdaaDoorYQ
namespace Go.Proofs.YtcmjdepjckhpdaaDoor.Kt
open Go Go.RowKit Lw

/-- a list of whole numbers in a row of the call's own (E: the number of the type int) -/
def OwN (w : World) (B : Nat) (E : TypeId) (v : Value) (l : List Int) : Prop := w.ownsRow B E 1 v l.length (nums .i64 l)
theorem nums_append (l r : List Int) : nums .i64 (l ++ r) = nums .i64 l ++ nums .i64 r := by simp [nums]
theorem nums_one (l : List Int) : ∀ v ∈ nums .i64 l, v.oneCell' = true := by
  intro v hv; simp only [nums, List.mem_map] at hv; obtain ⟨_, _, rfl⟩ := hv; rfl
section
variable {w w' : World} {B : Nat} {E : TypeId} {v : Value} {l : List Int}
theorem OwN.nil (w : World) (B : Nat) (E : TypeId) : OwN w B E (.slice none 0 0) [] := World.ownsRow_nil w B E 1
theorem OwN.alloc (h : OwN w B E v l) (o : Obj) : OwN (w.alloc o) B E v l := World.ownsRow.alloc h o
theorem OwN.drew (h : OwN w B E v l) : OwN w.drew B E v l := h
theorem OwN.drewN (h : OwN w B E v l) (n : Nat) : OwN (w.drewN n) B E v l := h
theorem OwN.below (h : OwN w B E v l) {B' : Nat} (hb : Below B' w w') (hv : ∀ g, v.ownBlock = some g → g < B') : OwN w' B E v l := by
  refine ⟨h.1, ?_⟩
  rcases h.2 with ⟨h1, h2⟩ | ⟨g, cap, cur, hv', h1, h2, h3⟩
  · exact .inl ⟨h1, h2⟩
  · exact .inr ⟨g, cap, cur, hv', h1, (hb.block g (hv g (by rw [hv']; rfl))).trans h2, h3⟩
theorem OwN.kept (h : OwN w B E v l) (hb : Below w.heap.size w w') : OwN w' B E v l := h.below hb fun g hg => (World.ownsRow.lt h g hg).2
/-- the row's own block, its cells -/
theorem OwN.form (h : OwN w B E v l) (hn : 0 < l.length) : ∃ g cap, v = .slice (some ⟨g, 0, none⟩) l.length cap ∧ B ≤ g ∧ g < w.heap.size ∧ ∀ j x, l[j]? = some x → w.cell? ⟨g, j, none⟩ = some (.int .i64 x) := by
  obtain ⟨g, cap, rfl, hB, hg⟩ := World.ownsRow.form h hn
  refine ⟨g, cap, rfl, hB, hg, fun j x hj => ?_⟩
  have hlt : j < l.length := (List.getElem?_eq_some_iff.1 hj).1
  have := World.ownsRow.cellAt (cap := cap) h j (by omega)
  rw [this]
  simp [nums, hj]
end
/-- append(s, one number) -/
theorem wp_pushN {P : Program} {o : Oper} {a : Act} {K : Act → World → Prop} {Q : Exit → Act → World → Prop} {W : World} {E : TypeId} (s x : Operand) (t : TypeId)
    (ho : o.op = .call { callee := .builtin .append, args := #[s, x], argTypes := #[t, t] })
    (ht : P.underlying t = some (.slice E)) (hi : (P.info? E).map (fun i => (i.zero, i.size, i.bytes)) = some (some (.int .i64 0), 1, 8))
    (B : Nat) (w0 : World) (v : Value) (l : List Int) (y : Int) (cs : Array Value) (hs : a.eval s = v) (hx : a.eval x = .slice (some ⟨W.heap.size, 0, none⟩) 1 1) (hc : cs = #[.int .i64 y])
    (hown : OwN W B E v l) (hlen : l.length + 1 ≤ 1000000000) (hb : Below B w0 W) (hbase : B ≤ W.heap.size)
    (h : ∀ v' w', OwN w' B E v' (l ++ [y]) → Below B w0 w' → W.grownBy w' v.ownBlock → K (a.put o.dst v') w') : o.wp P a (W.alloc (.cells cs E)) K Q := by
  obtain ⟨i0, hi0, hz0, hz1, hz2⟩ := info_parts hi
  subst hc
  refine wp_append_own _ s x t ho B E i0 (.int .i64 0) 1 8 ht hi0 hz0 hz1 hz2 rfl (by omega) v l.length (nums .i64 l) hs (World.ownsRow.alloc hown _)
    ⟨W.heap.size, 0, none⟩ 1 1 (nums .i64 [y]) hx rfl (fun j u hu => ?_) (nums_one [y]) (by unfold maxLen; omega) (by omega) (by simp; omega) (fun v' w' h1 h2 _ => ?_)
  · rw [Addr.add_mid, (Row.fresh W E #[.int .i64 y]).cell, Nat.zero_add]
    exact hu
  · have hg := grownBy_back _ h2
    refine h v' w' ?_ (hb.grown hg hbase fun k hk => (World.ownsRow.lt hown k hk).1) hg
    unfold OwN
    rw [List.length_append, nums_append]
    exact h1
theorem wpList_pushN {P : Program} {ops : Array Oper} {rest : List Oper} {o : Oper} {a : Act} {Q : Exit → Act → World → Prop} {W : World} {E : TypeId} (hgd : o.guard = none) (s x : Operand) (t : TypeId)
    (ho : o.op = .call { callee := .builtin .append, args := #[s, x], argTypes := #[t, t] })
    (ht : P.underlying t = some (.slice E)) (hi : (P.info? E).map (fun i => (i.zero, i.size, i.bytes)) = some (some (.int .i64 0), 1, 8))
    (B : Nat) (w0 : World) (v : Value) (l : List Int) (y : Int) (cs : Array Value) (hs : a.eval s = v) (hx : a.eval x = .slice (some ⟨W.heap.size, 0, none⟩) 1 1) (hc : cs = #[.int .i64 y])
    (hown : OwN W B E v l) (hlen : l.length + 1 ≤ 1000000000) (hb : Below B w0 W) (hbase : B ≤ W.heap.size)
    (h : ∀ v' w', OwN w' B E v' (l ++ [y]) → Below B w0 w' → W.grownBy w' v.ownBlock → wpList P ops Q rest (a.put o.dst v') w') : wpList P ops Q (o :: rest) a (W.alloc (.cells cs E)) :=
  wpList_plain hgd fun _ hK => wp_pushN s x t ho ht hi B w0 v l y cs hs hx hc hown hlen hb hbase fun v' w' h1 h2 h3 => hK _ _ (h v' w' h1 h2 h3)
end Go.Proofs.YtcmjdepjckhpdaaDoor.Kt
namespace Go.Proofs.YtcmjdepjckhpdaaDoor.So
open Go Go.RowKit Kt Kg Wr Lw Sha Dk Dg

abbrev tN : TypeId := 3
theorem infoN : (Tryd.prog.info? tN).map (fun i => (i.zero, i.size, i.bytes)) = some (some (.int .i64 0), 1, 8) := by kernel_rfl
/-- where each object's record ends -/
def endsOf (L : List Bs) : List Int := (List.range L.length).map fun i => ((recs (L.take (i + 1))).length : Int)
theorem endsOf_len (L : List Bs) : (endsOf L).length = L.length := by simp [endsOf]
theorem endsOf_snoc (L : List Bs) (b : Bs) : endsOf (L ++ [b]) = endsOf L ++ [((recs (L ++ [b])).length : Int)] := by
  unfold endsOf
  rw [List.length_append, List.length_cons, List.length_nil, Nat.zero_add, List.range_succ, List.map_append, List.map_cons, List.map_nil]
  congr 1
  · apply List.map_congr_left
    intro i hi
    rw [List.take_append_of_le_length (by have := List.mem_range.1 hi; omega)]
  · rw [List.take_of_length_le (by simp)]
theorem endsOf_at (L : List Bs) {i : Nat} (h : i < L.length) : (endsOf L)[i]? = some ((recs (L.take (i + 1))).length : Int) := by
  unfold endsOf
  rw [List.getElem?_map, List.getElem?_range h]; rfl
theorem recs_take (L : List Bs) (i j : Nat) (h : i ≤ j) : (recs (L.take i)).length ≤ (recs (L.take j)).length := by
  have e : L.take j = L.take i ++ (L.take j).drop i := by
    rw [show L.take i = (L.take j).take i by rw [List.take_take, Nat.min_eq_left h], List.take_append_drop]
  rw [e]
  unfold recs
  rw [List.flatMap_append, List.length_append]
  exact Nat.le_add_right _ _
/-- append of one number: where the row lies then -/
theorem wpList_pushN2 {P : Program} {ops : Array Oper} {rest : List Oper} {o : Oper} {a : Act} {Q : Exit → Act → World → Prop} {W : World} {E : TypeId} (hgd : o.guard = none) (s x : Operand) (t : TypeId)
    (ho : o.op = .call { callee := .builtin .append, args := #[s, x], argTypes := #[t, t] })
    (ht : P.underlying t = some (.slice E)) (hi : (P.info? E).map (fun i => (i.zero, i.size, i.bytes)) = some (some (.int .i64 0), 1, 8))
    (v : Value) (l : List Int) (y : Int) (cs : Array Value) (hs : a.eval s = v) (hx : a.eval x = .slice (some ⟨W.heap.size, 0, none⟩) 1 1) (hc : cs = #[.int .i64 y])
    (hown : OwN W 0 E v l) (hlen : l.length + 1 ≤ 1000000000)
    (h : ∀ g cap w', OwN w' 0 E (.slice (some ⟨g, 0, none⟩) (l.length + 1) cap) (l ++ [y]) → W.grownBy w' v.ownBlock → (v.ownBlock = some g ∨ W.heap.size ≤ g) → wpList P ops Q rest (a.put o.dst (.slice (some ⟨g, 0, none⟩) (l.length + 1) cap)) w') : wpList P ops Q (o :: rest) a (W.alloc (.cells cs E)) := by
  obtain ⟨i0, hi0, hz0, hz1, hz2⟩ := info_parts hi
  subst hc
  refine wpList_plain hgd fun K hK => wp_append_lies _ s x t ho 0 E i0 (.int .i64 0) 1 8 ht hi0 hz0 hz1 hz2 rfl (by omega) v l.length (nums .i64 l) hs (World.ownsRow.alloc hown _)
    ⟨W.heap.size, 0, none⟩ 1 1 (nums .i64 [y]) hx rfl (fun j u hu => ?_) (nums_one [y]) (by omega) (by unfold maxLen; omega) (by omega) (Nat.zero_le _) _ rfl (fun g cap w' h1 h2 h3 h4 => hK _ _ ?_)
  · rw [Addr.add_mid, (Row.fresh W E #[.int .i64 y]).cell, Nat.zero_add]
    exact hu
  · refine h g cap w' ?_ (grownBy_back _ h2) (h3.imp (fun e => e) fun e => by rw [e, World.size_alloc]; exact Nat.le_succ _)
    unfold OwN
    rw [List.length_append, nums_append]
    exact h1
/-- a store, and numbers, each in blocks of its own -/
structure KE (In : World → (Nat → Prop) → Nat → Nat → List Bs → Prop) (w0 W : World) (gs g : Nat) (x : Ss) (v : Value) (l : List Int) : Prop where
  low : Below w0.heap.size w0 W
  ps : ∃ U, PS In w0 W U gs g x ∧ (∀ k, U k → k < W.heap.size) ∧ ∀ b, v.ownBlock = some b → ¬ U b
  row : OwN W 0 tN v l
  up : ∀ b, v.ownBlock = some b → w0.heap.size ≤ b
section
variable {In : World → (Nat → Prop) → Nat → Nat → List Bs → Prop} {w0 W W' : World} {gs g : Nat} {x : Ss} {v : Value} {l : List Int}
theorem OwN.lt {w : World} {B : Nat} {E : TypeId} {v : Value} {l : List Int} (h : OwN w B E v l) {b : Nat} (hb : v.ownBlock = some b) : b < w.heap.size := (World.ownsRow.lt h b hb).2
theorem OwN.move {w w' : World} {B : Nat} {E : TypeId} {v : Value} {l : List Int} (h : OwN w B E v l) (hk : ∀ b, v.ownBlock = some b → w'.heap[b]? = w.heap[b]?) : OwN w' B E v l := by
  refine ⟨h.1, ?_⟩
  rcases h.2 with ⟨h1, h2⟩ | ⟨g, cap, cur, hv', h1, h2, h3⟩
  · exact .inl ⟨h1, h2⟩
  · exact .inr ⟨g, cap, cur, hv', h1, (hk g (by rw [hv']; rfl)).trans h2, h3⟩
theorem KE.below (C : Ct w0 In) (h : KE In w0 W gs g x v l) (hb : Below W.heap.size W W') : KE In w0 W' gs g x v l := by
  obtain ⟨h1, ⟨U, h2, h3, h4⟩, h6, h7⟩ := h
  exact ⟨h1.trans (hb.mono h1.size), ⟨U, h2.below C hb, fun k hk => Nat.lt_of_lt_of_le (h3 k hk) hb.size, h4⟩, OwN.move h6 fun b hk => hb.block b (OwN.lt h6 hk), h7⟩
theorem KE.start (C : Ct w0 In) {U : Nat → Prop} (hlow : Below w0.heap.size w0 W) (h : PS In w0 W U gs g x) : KE In w0 W gs g x (.slice none 0 0) [] :=
  ⟨hlow, ⟨_, h.imp (V := fun k => k < W.heap.size ∧ U k) C fun k hk hu => ⟨hk, hu⟩, fun k hk => hk.1, fun b hb => (by cases hb)⟩, OwN.nil _ _ _, fun b hb => (by cases hb)⟩
theorem KE.put (C : Ct w0 In) (h : KE In w0 W gs g x v l) (hf : x.s.fit) (b : Bs) (hb : b.length ≤ 1000) (hl : x.L.length ≤ 1000) {wa : World} {q c : Nat} (hba : Below W.heap.size W wa) (hq : W.heap.size ≤ q) (hs : Sl wa (fun z => z = q) (some ⟨q, 0, none⟩) c b) :
    Calls Tryd.prog 15 #[pt gs, .slice (some ⟨q, 0, none⟩) b.length c] wa fun y w' => y = .returned (.tuple #[.string ⟨(So.put x b).2.1.toArray⟩, .int .i64 ((So.put x b).2.2 : Int)]) ∧
      KE In w0 w' gs g (So.put x b).1 v l := by
  have ha := h.below C hba
  obtain ⟨_, ⟨U, h2, h3, h4⟩, _, h7⟩ := h
  refine ((h2.below C hba).put C ha.low hf b _ _ _ hs (fun k hk hu => by have := h3 k hu; omega) hb hl).mono ?_
  rintro y w' ⟨rfl, q1, q2, q3⟩
  refine ⟨rfl, ⟨q3, ⟨fun k => k < w'.heap.size ∧ (U k ∨ wa.heap.size ≤ k), q1.imp C fun k hk hu => ⟨hk, hu⟩, fun k hk => hk.1, fun k hk hu => ?_⟩, OwN.move ha.row fun k hk => q2.block k (OwN.lt ha.row hk) (h4 k hk), h7⟩⟩
  have := OwN.lt ha.row hk
  rcases hu.2 with hu | hu
  · exact h4 k hk hu
  · omega
theorem KE.push (C : Ct w0 In) (h : KE In w0 W gs g x v l) {n : Nat} {c : Nat} {l' : List Int} {q : Nat} (hg : W.grownBy W' v.ownBlock) (ho : OwN W' 0 tN (.slice (some ⟨q, 0, none⟩) n c) l') (hq : v.ownBlock = some q ∨ W.heap.size ≤ q) : KE In w0 W' gs g x (.slice (some ⟨q, 0, none⟩) n c) l' := by
  obtain ⟨h1, ⟨U, h2, h3, h4⟩, h6, h7⟩ := h
  have hw : w0.heap.size ≤ q := hq.elim (h7 q) fun y => Nat.le_trans h1.size y
  refine ⟨h1.grown hg h1.size fun k e => h7 k e, ⟨fun k => k < W.heap.size ∧ U k, (h2.imp (V := fun k => k < W.heap.size ∧ U k) C fun k hk hu => ⟨hk, hu⟩).oth C (Oth.of_grown (S := fun k => v.ownBlock = some k) hg fun b e => e) fun k _ a b => h4 k b a.2, fun k hk => Nat.lt_of_lt_of_le hk.1 hg.size, fun k hk hu => ?_⟩, ho, fun b hb => ?_⟩
  · obtain rfl : q = k := by simpa [Value.ownBlock] using hk
    rcases hq with y | y
    · exact h4 q y hu.2
    · have := hu.1; omega
  · obtain rfl : q = b := by simpa [Value.ownBlock] using hb
    exact hw
theorem KE.size (h : KE In w0 W gs g x v l) : Calls Tryd.prog 28 #[pt g] W fun y w' => y = .returned (.int .i64 (x.s.k.length : Nat)) ∧ W = w' := by
  obtain ⟨U, h2, _⟩ := h.ps
  exact h2.size
theorem KE.many (C : Ct w0 In) (h : KE In w0 W gs g x v l) (hl : x.L.length ≤ 1000) : Calls Tryd.prog 27 #[pt gs] W fun y w' => y = .returned (.int .i64 (x.L.length : Int)) ∧ Below W.heap.size W w' := by
  obtain ⟨U, h2, _⟩ := h.ps
  exact h2.many C h.low hl
/-- the numbers stay, whatever becomes of the disk -/
theorem KE.ts (h : KE In w0 W gs g x v l) : TS In w0 W g x.s x.L [gs] (fun k => v.ownBlock = some k) := by
  obtain ⟨h1, ⟨U, ⟨S, Sd, p1, p2, p3, p4⟩, h3, h4⟩, h6, h7⟩ := h
  exact ⟨h1, Sd, p2, fun k hk => (p3 k (.inr hk)).2, fun gs' hg => ⟨S, by rw [List.mem_singleton.1 hg]; exact p1, p4⟩, fun k hk => ⟨OwN.lt h6 hk, fun hd => h4 k hk (p3 k (.inr hd)).1⟩⟩
end
/-- what holds between two puts -/
structure CutF (x : Ss) (k : Nat) : Prop where
  good : Good x
  plain : Plain x.s
  few : x.L.length ≤ k
  len : x.s.k.length ≤ 65 * k
  room : x.s.room = 5000
theorem CutF.put {x : Ss} {k : Nat} {b : Bs} (h : CutF x k) (hb : b.length ≤ 60) : CutF (So.put x b).1 (k + 1) :=
  ⟨h.good.put b, h.plain.so b, by have := put_many (x := x) (b := b); have := h.few; omega, by have := put_len h.good.fit hb; have := h.len; omega, (put_room b).trans h.room⟩
/-- what a front of a store's disk is opened as -/
theorem front_open {x : Ss} (h : Good x) (hd : x.s.dead = false) (n : Nat) : ∃ k, k ≤ x.L.length ∧ op [] (x.s.k.take n) 0 = (0, x.L.take k, (recs (x.L.take k)).length) ∧ (x.s.k.take n).take (recs (x.L.take k)).length = recs (x.L.take k) ∧ (recs (x.L.take k)).length ≤ n ∧ ∀ j, k < j → j ≤ x.L.length → n < (recs (x.L.take j)).length := by
  obtain ⟨k, t, h1, h2, h3, h4, h5⟩ := recs_front x.L n h.short
  rw [h.alive hd, h3]
  refine ⟨k, h1, op_whole (fun b hb => h.short b (List.mem_of_mem_take hb)) ?_ h2, List.take_left, h4, h5⟩
  have := h.once
  rw [List.map_take]
  exact this.sublist (List.take_sublist _ _)
end Go.Proofs.YtcmjdepjckhpdaaDoor.So
