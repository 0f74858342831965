/-
  The statements' own example (awake) of the merging layer comes out true.
-/
import Derived.BigQuiet
import Derived.Test.YtghnieddokhagaaDoorMI
import Derived.Test.YtghnieddokhagaaDoorQReg
import Derived.Test.YtghnieddokhagaaDoorQWS
namespace Go.Proofs.YtghnieddokhagaaDoor.Al
open Go Go.RowKit Kt Kg Lw Li Df

abbrev yO : Ls := [[49]]
abbrev yA : Ls := [[50]]
abbrev yB : Ls := [[51]]
theorem D_yA : D yO yA = [⟨0, 1, [[50]]⟩] := by
  have h1 : fr yO yA = 0 := by decide
  have h2 : bk yO yA = 0 := by decide
  have h3 : mid yO 0 0 = [[49]] := by decide
  have h4 : mid yA 0 0 = [[50]] := by decide
  unfold D
  rw [h1, h2, h3, h4, if_pos (by decide), go_both, if_neg (by decide), if_pos (by rw [lcs_nil_right]; exact Nat.zero_le _), go_come, go_nil]
  rfl
theorem D_yB : D yO yB = [⟨0, 1, [[51]]⟩] := by
  have h1 : fr yO yB = 0 := by decide
  have h2 : bk yO yB = 0 := by decide
  have h3 : mid yO 0 0 = [[49]] := by decide
  have h4 : mid yB 0 0 = [[51]] := by decide
  unfold D
  rw [h1, h2, h3, h4, if_pos (by decide), go_both, if_neg (by decide), if_pos (by rw [lcs_nil_right]; exact Nat.zero_le _), go_come, go_nil]
  rfl
abbrev zO : Ls := [[49, 10], [50, 10], [51, 10]]
abbrev zA : Ls := [[120, 10], [50, 10], [51, 10]]
abbrev zB : Ls := [[49, 10], [50, 10], [121, 10]]
theorem D_zA : D zO zA = [⟨0, 1, [[120, 10]]⟩] := by
  have h1 : fr zO zA = 0 := by decide
  have h2 : bk zO zA = 2 := by decide
  have h3 : mid zO 0 2 = [[49, 10]] := by decide
  have h4 : mid zA 0 2 = [[120, 10]] := by decide
  unfold D
  rw [h1, h2, h3, h4, if_pos (by decide), go_both, if_neg (by decide), if_pos (by rw [lcs_nil_right]; exact Nat.zero_le _), go_come, go_nil]
  rfl
theorem D_zB : D zO zB = [⟨2, 1, [[121, 10]]⟩] := by
  have h1 : fr zO zB = 2 := by decide
  have h2 : bk zO zB = 0 := by decide
  have h3 : mid zO 2 0 = [[51, 10]] := by decide
  have h4 : mid zB 2 0 = [[121, 10]] := by decide
  unfold D
  rw [h1, h2, h3, h4, if_pos (by decide), go_both, if_neg (by decide), if_pos (by rw [lcs_nil_right]; exact Nat.zero_le _), go_come, go_nil]
  rfl
theorem regs_y : regs yO yA yB = [⟨4, 0, 1, 0, 1, 0, 1⟩] := by
  unfold regs
  rw [D_yA, D_yB, mrg, if_pos (by decide), mrg, List.map_cons, List.map_nil, loop_cons]
  have g1 : grow ((Cl.zero 0).take false ⟨0, 1, [[50]]⟩) [(true, ⟨0, 1, [[51]]⟩)] = (⟨0, 1, 1, 0, 1, 0⟩, []) := by rfl
  simp only [g1]
  rw [loop_nil]
  decide
theorem regs_z : regs zO zA zB = [⟨1, 0, 1, 0, 1, 0, 1⟩, ⟨0, 1, 1, 1, 1, 1, 1⟩, ⟨2, 2, 1, 2, 1, 2, 1⟩] := by
  unfold regs
  rw [D_zA, D_zB, mrg, if_pos (by decide), mrg, List.map_cons, List.map_nil, loop_cons]
  have g1 : grow ((Cl.zero 0).take false ⟨0, 1, [[120, 10]]⟩) [(true, ⟨2, 1, [[121, 10]]⟩)] = (⟨0, 1, 1, 0, 0, 0⟩, [(true, ⟨2, 1, [[121, 10]]⟩)]) := by rfl
  simp only [g1]
  rw [loop_cons]
  have g2 : grow ((Cl.zero 2).take true ⟨2, 1, [[121, 10]]⟩) [] = (⟨2, 3, 0, 0, 1, 0⟩, []) := by rfl
  simp only [g2]
  rw [loop_nil]
  decide
theorem mgT_y : mgT [49] [50] [51] = ([60, 60, 60, 60, 60, 60, 60, 10, 50, 10, 124, 124, 124, 124, 124, 124, 124, 10, 49, 10, 61, 61, 61, 61, 61, 61, 61, 10, 51, 10, 62, 62, 62, 62, 62, 62, 62, 10], 1) := by
  rw [mgT_lines (by decide) (by decide) (by decide), show lns [49] = yO from by decide, show lns [50] = yA from by decide, show lns [51] = yB from by decide]
  unfold mgL mgN
  rw [regs_y]
  decide
theorem mgT_z : mgT [49, 10, 50, 10, 51, 10] [120, 10, 50, 10, 51, 10] [49, 10, 50, 10, 121, 10] = ([120, 10, 50, 10, 121, 10], 0) := by
  rw [mgT_lines (by decide) (by decide) (by decide), show lns [49, 10, 50, 10, 51, 10] = zO from by decide, show lns [120, 10, 50, 10, 51, 10] = zA from by decide, show lns [49, 10, 50, 10, 121, 10] = zB from by decide]
  unfold mgL mgN
  rw [regs_z]
  decide
end Go.Proofs.YtghnieddokhagaaDoor.Al
namespace Go.Proofs.YtghnieddokhagaaDoor.Al
open Go Go.RowKit Kt Kg Lw Li Df

theorem shut_seven (c : UInt8) (h : c ≠ 10) : shut (List.replicate 7 c) = mk7 c := by
  rw [shut_no (by simpa using h)]
  rfl
theorem less_cons (x y : UInt8) (p q : List UInt8) : Op.bytesLess (x :: p) (y :: q) = (decide (x < y) || (x == y && Op.bytesLess p q)) := rfl
theorem less_end {p q : List UInt8} (h : p = [] ∨ q = []) : Op.bytesLess p q = decide (p.length < q.length) := by
  cases p with
  | nil => cases q <;> simp [Op.bytesLess]
  | cons x p =>
    have hq : q = [] := by simpa using h
    subst hq
    simp [Op.bytesLess]
theorem drop_getD (a : List UInt8) (k : Nat) (h : k < a.length) : a.drop k = a.getD k 0 :: a.drop (k + 1) := by
  rw [List.drop_eq_getElem_cons h]; simp [List.getElem?_eq_getElem h]
set_option maxRecDepth 100000 in
set_option maxHeartbeats 2000000 in
theorem less_any (a b : List UInt8) (w : World) (ha : a.length ≤ 100000) (_hb : b.length ≤ 100000) :
    Calls Tryd.prog 19 #[.string ⟨a.toArray⟩, .string ⟨b.toArray⟩] w fun e w' => e = .returned (.bool (Op.bytesLess a b)) ∧ Below w.heap.size w w' := by
  go_enter Tryd.func19, Tryd.ntmps19
  go_wp2
  go_loopw [5] (fun i wr => ∃ k : Nat, k ≤ a.length ∧ k ≤ b.length ∧ i = .int .i64 k ∧ Hid (Op.bytesLess a b = Op.bytesLess (a.drop k) (b.drop k)) ∧ Below w.heap.size w wr) (fun i _ => a.length - (intOf i).toNat)
  case atStart => exact ⟨0, Nat.zero_le _, Nat.zero_le _, rfl, by show Hid _; exact hide rfl, Below.refl _ _⟩
  case round =>
    obtain ⟨k, hka, hkb, rfl, HL, hbw⟩ := hrel
    have Hb := hide hbw
    clear hbw
    by_cases hlt : k < a.length ∧ k < b.length
    · obtain ⟨h1, h2⟩ := hlt
      have e1 := Li.get_at a k (by rw [size_of]; exact h1)
      have e2 := Li.get_at b k (by rw [size_of]; exact h2)
      have hL := HL.out
      rw [drop_getD a k h1, drop_getD b k h2, less_cons] at hL
      generalize a.getD k 0 = x at *
      generalize b.getD k 0 = y at *
      clear HL
      by_cases hxy : x = y
      · subst hxy
        have HL2 := hide (show Op.bytesLess a b = Op.bytesLess (a.drop (k + 1)) (b.drop (k + 1)) by rw [hL]; simp)
        clear hL
        go_wp2
        go_quiet (fail)
        go_wp2
        exact ⟨⟨k + 1, by omega, by omega, by go_num, HL2, below_drewN Hb.out _⟩, by simp [intOf]; omega⟩
      · have hne : ((x.toNat : Int) != (y.toNat : Int)) = true := by
          rw [bne_iff_ne]
          intro h
          exact hxy (UInt8.toNat_inj.1 (by omega))
        have HL2 := hide (show Op.bytesLess a b = decide (x.toNat < y.toNat) by
          rw [hL, show (x == y) = false by simpa using hxy]
          simp only [Bool.false_and, Bool.or_false]
          rw [decide_eq_decide, UInt8.lt_iff_toNat_lt])
        clear hL hxy
        go_wp2
        go_quiet (fail)
        go_wp2
        go_quiet (fail)
        go_wp2
        go_ret
        exact ⟨by rw [HL2.out]; rfl, below_drewN (below_drewN Hb.out _) _⟩
    · have hor : a.drop k = [] ∨ b.drop k = [] := by
        rw [List.drop_eq_nil_iff, List.drop_eq_nil_iff]; omega
      have HL2 := hide (show Op.bytesLess a b = decide (a.length < b.length) by
        rw [HL.out, less_end hor, decide_eq_decide, List.length_drop, List.length_drop]
        omega)
      clear HL hor
      by_cases h1 : k < a.length
      · have h2 : ¬ k < b.length := fun h => hlt ⟨h1, h⟩
        have d1 : decide ((k : Int) < (a.length : Int)) = true := decide_eq_true (by omega)
        have d2 : decide ((k : Int) < (b.length : Int)) = false := decide_eq_false (by omega)
        clear hlt
        go_wp2
        go_ret
        exact ⟨by rw [HL2.out]; rfl, Hb.out⟩
      · have d1 : decide ((k : Int) < (a.length : Int)) = false := decide_eq_false (by omega)
        clear hlt
        go_wp2
        go_ret
        exact ⟨by rw [HL2.out]; rfl, Hb.out⟩
end Go.Proofs.YtghnieddokhagaaDoor.Al
namespace Go.Proofs.YtghnieddokhagaaDoor.Al
open Go Go.RowKit Kt Kg Lw Li Df Kf

/-- what is told so far lies in a row of the call's own, beside a region's box -/
structure RL (w0 : World) (B0 q : Nat) (cs : List Value) (v : Value) (F : Ls) (w : World) : Prop where
  own : OwT w B0 tS v F
  low : Below B0 w0 w
  row : Row w q tR cs
theorem RL.below {w0 w w' : World} {B0 q : Nat} {cs : List Value} {v : Value} {F : Ls} (h : RL w0 B0 q cs v F w) (hb : Below w.heap.size w w') (hB : B0 ≤ w.heap.size) : RL w0 B0 q cs v F w' :=
  ⟨h.own.kept hb, h.low.trans (hb.mono hB), h.row.below hb h.row.lt⟩
theorem row_ne {w : World} {B g : Nat} {v : Value} {l : Ls} {cs : List Value} (hrow : Row w g tR cs) (hown : OwT w B tS v l) : some g ≠ v.ownBlock := by
  intro h
  rcases hown.2 with ⟨rfl, _⟩ | ⟨g', cap', cur', rfl, _, hgg', _⟩
  · cases h
  · simp only [Value.ownBlock, Option.some.injEq] at h
    subst h
    unfold Row at hrow
    rw [hgg'] at hrow
    simp only [Option.some.injEq, Obj.cells.injEq] at hrow
    exact absurd hrow.2.1 (by decide)
theorem RL.pushed {w0 w w' : World} {B0 q : Nat} {cs : List Value} {v v' : Value} {F F' : Ls} (h : RL w0 B0 q cs v F w) (ho : OwT w' B0 tS v' F') (hl : Below B0 w0 w') (hg : w.grownBy w' v.ownBlock) : RL w0 B0 q cs v' F' w' :=
  ⟨ho, hl, (hg.block q h.row.lt (row_ne h.row h.own)).trans h.row⟩
theorem RL.base {w0 w : World} {B0 q : Nat} {cs : List Value} {v : Value} {F : Ls} (h : RL w0 B0 q cs v F w) (hB : B0 ≤ w0.heap.size) : B0 ≤ w.heap.size := Nat.le_trans hB h.low.size
theorem cut_take (l : Ls) (x m k : Nat) (hx : x + m ≤ l.length) (hk : k < m) : (cut l x m).take (k + 1) = (cut l x m).take k ++ [l.getD (x + k) []] := by
  have hl := cut_len (l := l) (x := x) (n := m) rfl rfl hx
  rw [List.take_succ_eq_append_getElem (by omega)]
  congr 1
  unfold cut
  simp [List.getElem?_eq_getElem (show x + k < l.length by omega)]
end Go.Proofs.YtghnieddokhagaaDoor.Al
namespace Go.Proofs.YtghnieddokhagaaDoor.Kt
open Go Go.RowKit Lw

/-- a list of whole numbers in a row of the call's own (E: the number of the type int) -/
def OwN (w : World) (B : Nat) (E : TypeId) (v : Value) (l : List Int) : Prop := w.ownsRow B E 1 v l.length (nums .i64 l)
theorem nums_append (l r : List Int) : nums .i64 (l ++ r) = nums .i64 l ++ nums .i64 r := by simp [nums]
theorem nums_one (l : List Int) : ∀ v ∈ nums .i64 l, v.oneCell' = true := by
  intro v hv; simp only [nums, List.mem_map] at hv; obtain ⟨_, _, rfl⟩ := hv; rfl
section
variable {w w' : World} {B : Nat} {E : TypeId} {v : Value} {l : List Int}
theorem OwN.nil (w : World) (B : Nat) (E : TypeId) : OwN w B E (.slice none 0 0) [] := World.ownsRow_nil w B E 1
theorem OwN.alloc (h : OwN w B E v l) (o : Obj) : OwN (w.alloc o) B E v l := World.ownsRow.alloc h o
theorem OwN.drew (h : OwN w B E v l) : OwN w.drew B E v l := h
theorem OwN.drewN (h : OwN w B E v l) (n : Nat) : OwN (w.drewN n) B E v l := h
theorem OwN.below (h : OwN w B E v l) {B' : Nat} (hb : Below B' w w') (hv : ∀ g, v.ownBlock = some g → g < B') : OwN w' B E v l := by
  refine ⟨h.1, ?_⟩
  rcases h.2 with ⟨h1, h2⟩ | ⟨g, cap, cur, hv', h1, h2, h3⟩
  · exact .inl ⟨h1, h2⟩
  · exact .inr ⟨g, cap, cur, hv', h1, (hb.block g (hv g (by rw [hv']; rfl))).trans h2, h3⟩
theorem OwN.kept (h : OwN w B E v l) (hb : Below w.heap.size w w') : OwN w' B E v l := h.below hb fun g hg => (World.ownsRow.lt h g hg).2
/-- the row's own block, its cells -/
theorem OwN.form (h : OwN w B E v l) (hn : 0 < l.length) : ∃ g cap, v = .slice (some ⟨g, 0, none⟩) l.length cap ∧ B ≤ g ∧ g < w.heap.size ∧ ∀ j x, l[j]? = some x → w.cell? ⟨g, j, none⟩ = some (.int .i64 x) := by
  obtain ⟨g, cap, rfl, hB, hg⟩ := World.ownsRow.form h hn
  refine ⟨g, cap, rfl, hB, hg, fun j x hj => ?_⟩
  have hlt : j < l.length := (List.getElem?_eq_some_iff.1 hj).1
  have := World.ownsRow.cellAt (cap := cap) h j (by omega)
  rw [this]
  simp [nums, hj]
end
/-- append(s, one number) -/
theorem wp_pushN {P : Program} {o : Oper} {a : Act} {K : Act → World → Prop} {Q : Exit → Act → World → Prop} {W : World} {E : TypeId} (s x : Operand) (t : TypeId)
    (ho : o.op = .call { callee := .builtin .append, args := #[s, x], argTypes := #[t, t] })
    (ht : P.underlying t = some (.slice E)) (hi : (P.info? E).map (fun i => (i.zero, i.size, i.bytes)) = some (some (.int .i64 0), 1, 8))
    (B : Nat) (w0 : World) (v : Value) (l : List Int) (y : Int) (cs : Array Value) (hs : a.eval s = v) (hx : a.eval x = .slice (some ⟨W.heap.size, 0, none⟩) 1 1) (hc : cs = #[.int .i64 y])
    (hown : OwN W B E v l) (hlen : l.length + 1 ≤ 1000000000) (hb : Below B w0 W) (hbase : B ≤ W.heap.size)
    (h : ∀ v' w', OwN w' B E v' (l ++ [y]) → Below B w0 w' → W.grownBy w' v.ownBlock → K (a.put o.dst v') w') : o.wp P a (W.alloc (.cells cs E)) K Q := by
  obtain ⟨i0, hi0, hz0, hz1, hz2⟩ := info_parts hi
  subst hc
  refine wp_append_own _ s x t ho B E i0 (.int .i64 0) 1 8 ht hi0 hz0 hz1 hz2 rfl (by omega) v l.length (nums .i64 l) hs (World.ownsRow.alloc hown _)
    ⟨W.heap.size, 0, none⟩ 1 1 (nums .i64 [y]) hx rfl (fun j u hu => ?_) (nums_one [y]) (by unfold maxLen; omega) (by omega) (by simp; omega) (fun v' w' h1 h2 _ => ?_)
  · rw [Addr.add_mid, (Row.fresh W E #[.int .i64 y]).cell, Nat.zero_add]
    exact hu
  · have hg := grownBy_back _ h2
    refine h v' w' ?_ (hb.grown hg hbase fun k hk => (World.ownsRow.lt hown k hk).1) hg
    unfold OwN
    rw [List.length_append, nums_append]
    exact h1
theorem wpList_pushN {P : Program} {ops : Array Oper} {rest : List Oper} {o : Oper} {a : Act} {Q : Exit → Act → World → Prop} {W : World} {E : TypeId} (hgd : o.guard = none) (s x : Operand) (t : TypeId)
    (ho : o.op = .call { callee := .builtin .append, args := #[s, x], argTypes := #[t, t] })
    (ht : P.underlying t = some (.slice E)) (hi : (P.info? E).map (fun i => (i.zero, i.size, i.bytes)) = some (some (.int .i64 0), 1, 8))
    (B : Nat) (w0 : World) (v : Value) (l : List Int) (y : Int) (cs : Array Value) (hs : a.eval s = v) (hx : a.eval x = .slice (some ⟨W.heap.size, 0, none⟩) 1 1) (hc : cs = #[.int .i64 y])
    (hown : OwN W B E v l) (hlen : l.length + 1 ≤ 1000000000) (hb : Below B w0 W) (hbase : B ≤ W.heap.size)
    (h : ∀ v' w', OwN w' B E v' (l ++ [y]) → Below B w0 w' → W.grownBy w' v.ownBlock → wpList P ops Q rest (a.put o.dst v') w') : wpList P ops Q (o :: rest) a (W.alloc (.cells cs E)) :=
  wpList_plain hgd fun _ hK => wp_pushN s x t ho ht hi B w0 v l y cs hs hx hc hown hlen hb hbase fun v' w' h1 h2 h3 => hK _ _ (h v' w' h1 h2 h3)
end Go.Proofs.YtghnieddokhagaaDoor.Kt
