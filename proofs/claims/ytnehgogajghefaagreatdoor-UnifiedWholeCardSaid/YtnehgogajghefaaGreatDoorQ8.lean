/-
  Bounds of hunks; what comes in edits between two lists: on lists alone.
-/
import Derived.Test.YtnehgogajghefaaGreatDoorQ5
import Derived.Test.YtnehgogajghefaaGreatDoorENs
import Derived.Test.YtnehgogajghefaaGreatDoorHP
import Derived.Test.YtnehgogajghefaaGreatDoorQ1
import Derived.Test.YtnehgogajghefaaGreatDoorQ7
namespace Go.Proofs.YtnehgogajghefaaGreatDoor.Hu
open Df

theorem size_nn : ∀ L : List Ed, 0 ≤ size L
  | [] => Int.le_refl _
  | e :: l => by rw [size]; have := size_nn l; omega
theorem delta_le (n : Nat) : ∀ (g : List Ed) (last : Int), right n last g = true → -1 ≤ last → -size g ≤ delta g ∧ delta g ≤ size g
  | [], _, _, _ => by simp [delta, size]
  | e :: g, last, hr, hl => by
    obtain ⟨p, d, ep, ed, hpd, hlp, hne, hr'⟩ := right_head hr hl
    have := delta_le n g _ hr' (by omega)
    rw [delta, size]
    omega
theorem pts_mem (a : Ls) (r M : Nat) (ha : ∀ y ∈ a, y.length ≤ M) : ∀ (g : List Ed) (z : Nat), (∀ e ∈ g, ∀ y ∈ e.ins, y.length ≤ M) → ∀ x ∈ lay (pts a r z g), x.length ≤ M + 1
  | [], z, _, x, hx => by
    rw [pts] at hx
    split at hx
    · cases hx
    · simp only [lay, layP, mk, List.map_nil, List.append_nil, List.mem_map] at hx
      obtain ⟨y, hy, rfl⟩ := hx
      have := ha y (List.mem_of_mem_drop (List.mem_of_mem_take hy))
      simp; omega
  | e :: g, z, he, x, hx => by
    rw [pts, lay, List.mem_append] at hx
    rcases hx with hx | hx
    · simp only [layP, mk, List.mem_append, List.mem_map] at hx
      rcases hx with ⟨y, hy, rfl⟩ | ⟨y, hy, rfl⟩ | ⟨y, hy, rfl⟩
      · have := ha y (List.mem_of_mem_drop (List.mem_of_mem_take hy))
        simp; omega
      · have := ha y (List.mem_of_mem_drop (List.mem_of_mem_take hy))
        simp; omega
      · have := he e (List.mem_cons_self ..) y hy
        simp; omega
    · exact pts_mem a r M ha g _ (fun e' h' => he e' (List.mem_cons_of_mem _ h')) x hx
theorem mk_bounds (a : Ls) (r M : Nat) (ha : ∀ y ∈ a, y.length ≤ M) : ∀ (k : Nat) (l : List Ed) (more last : Int), l.length ≤ k → right a.length last l = true → -1 ≤ last → (∀ e ∈ l, ∀ y ∈ e.ins, y.length ≤ M) →
    ∀ h ∈ mkHs a r more l, (h.lines.length : Int) ≤ a.length + size l ∧ (0 ≤ h.a ∧ h.a ≤ a.length) ∧ (more - size l ≤ h.b ∧ h.b ≤ a.length + more + size l) ∧ ∀ x ∈ h.lines, x.length ≤ M + 1
  | _, [], more, _, _, _, _, _, h, hh => by rw [mkHs_nil] at hh; cases hh
  | 0, e :: l, _, _, h, _, _, _, _, _ => by simp at h
  | k + 1, e :: l, more, last, hk, hr, hl, hi, h, hh => by
    have hsp := spl_eq r l e
    have hsl := spl_len r l e
    obtain ⟨g, hg⟩ : ∃ g, g = (spl r e l).1 := ⟨_, rfl⟩
    obtain ⟨t, ht⟩ : ∃ t, t = (spl r e l).2 := ⟨_, rfl⟩
    rw [mkHs_cons, ← hg, ← ht] at hh
    rw [← hg, ← ht] at hsp hsl
    have hcons : e :: l = (e :: g) ++ t := by rw [List.cons_append, hsp]
    have hr2 : right a.length last ((e :: g) ++ t) = true := by rw [← hcons]; exact hr
    obtain ⟨r1, r2, r3, r4⟩ := right_app a.length (e :: g) t last hr2 hl
    have hsz : size (e :: l) = size (e :: g) + size t := by rw [hcons, size_append]
    have h1 := size_nn (e :: g)
    have h2 := size_nn t
    have hd := delta_le a.length (e :: g) last r1 hl
    have f4 := pts_delta a r (e :: g) (from_ r e) last r1 hl
    simp only [List.length_cons] at hk
    rcases List.mem_cons.1 hh with rfl | hh
    · obtain ⟨p, d, ep, ed, hpd, hlp, hne, hr'⟩ := right_head r1 hl
      have hf := from_le r e p ep
      have h3 := pts_len a r (e :: g) (from_ r e) last r1 hl (by omega)
      have h4 := pts_old a r (e :: g) (from_ r e) last r1 hl (.inr fun e' t' h => by
        injection h with h1 _
        rw [← h1, ep]; omega) (by omega)
      simp only [oneH]
      refine ⟨by omega, by omega, by omega, fun x hx => ?_⟩
      exact pts_mem a r M ha (e :: g) _ (fun e' h' => hi e' (by rw [hcons]; exact List.mem_append_left _ h')) x hx
    · simp only [oneH] at hh
      rw [f4] at hh
      obtain ⟨i1, i2, i3, i4⟩ := mk_bounds a r M ha k t (more + delta (e :: g)) _ (by omega) r2 (by omega) (fun e' h' => hi e' (by rw [hcons]; exact List.mem_append_right _ h')) h hh
      exact ⟨by omega, i2, by omega, i4⟩
theorem emit_ins (pos del : Nat) (ins : Ls) (e : Ed) (h : e ∈ emit pos del ins) : e.ins = ins := by
  unfold emit at h
  split at h
  · cases h
  · simp at h; rw [h]
theorem go_ins (x y : Ls) (pos del : Nat) (ins : Ls) : ∀ e ∈ go x y pos del ins, ∀ z ∈ e.ins, z ∈ ins ∨ z ∈ y := by
  refine go_ind (fun x y pos del ins r => ∀ e ∈ r, ∀ z ∈ e.ins, z ∈ ins ∨ z ∈ y) ?_ ?_ ?_ ?_ ?_ ?_ _ x y pos del ins (Nat.le_refl _)
  · intro pos del ins e he z hz
    rw [emit_ins _ _ _ _ he] at hz
    exact .inl hz
  · intro b y pos del ins r h e he z hz
    rcases h e he z hz with h | h
    · rcases List.mem_append.1 h with h | h
      · exact .inl h
      · simp at h; rw [h]; exact .inr (List.mem_cons_self ..)
    · exact .inr (List.mem_cons_of_mem _ h)
  · intro a x pos del ins r h e he z hz
    exact h e he z hz
  · intro a x y pos del ins r h e he z hz
    rcases List.mem_append.1 he with he | he
    · rw [emit_ins _ _ _ _ he] at hz
      exact .inl hz
    · rcases h e he z hz with h | h
      · cases h
      · exact .inr (List.mem_cons_of_mem _ h)
  · intro a b x y pos del ins r _ _ h e he z hz
    exact h e he z hz
  · intro a b x y pos del ins r _ _ h e he z hz
    rcases h e he z hz with h | h
    · rcases List.mem_append.1 h with h | h
      · exact .inl h
      · simp at h; rw [h]; exact .inr (List.mem_cons_self ..)
    · exact .inr (List.mem_cons_of_mem _ h)
/-- what comes is of the other list -/
theorem D_ins (a b : Ls) : ∀ e ∈ D a b, ∀ z ∈ e.ins, z ∈ b := by
  intro e he z hz
  have hm : ∀ z ∈ mid b (fr a b) (bk a b), z ∈ b := fun z hz => by
    unfold mid at hz
    exact List.mem_of_mem_drop (List.mem_of_mem_take hz)
  unfold D at he
  split at he
  · rcases go_ins _ _ _ _ _ e he z hz with h | h
    · cases h
    · exact hm z h
  · rw [emit_ins _ _ _ _ he] at hz
    exact hm z hz
end Go.Proofs.YtnehgogajghefaaGreatDoor.Hu
namespace Go.Proofs.YtnehgogajghefaaGreatDoor.Df
open Go Go.RowKit Kt Lw Li

theorem right_len (n : Nat) : ∀ (L : List Ed) (last : Int), -1 ≤ last → right n last L = true → (L.length : Int) ≤ size L
  | [], _, _, _ => by simp [size]
  | e :: l, last, h1, hr => by
    obtain ⟨p, d, ep, ed, hpd, hlp, hne, hr'⟩ := right_head hr h1
    have := right_len n l _ (by omega) hr'
    rw [size, List.length_cons, ed]
    rcases hne with h | h
    · omega
    · have := List.length_pos_iff.2 h
      omega
/-- how large what is between is -/
theorem D_small (a b : Ls) (ha : a.length ≤ 100) (hb : b.length ≤ 100) : size (D a b) ≤ 200 ∧ (D a b).length ≤ 200 := by
  have h1 := D_size a b (Nat.le_trans (mul_le ha hb) (by omega))
  have h2 := right_len _ _ _ (by omega) (D_right a b)
  constructor <;> omega
theorem back_facts (a b : Ls) : play b 0 (turn a 0 (D a b)) = a ∧ right b.length (-1) (turn a 0 (D a b)) = true ∧ size (turn a 0 (D a b)) = size (D a b) := by
  have hr := D_right a b
  have h1 := play_turn a (D a b) 0 (-1) [] 0 0 (by omega) (by omega) hr rfl rfl
  have h2 := right_turn a (D a b) 0 (-1) 0 b.length (by omega) (by omega) hr (by rw [D_play]; simp)
  rw [List.nil_append, D_play, List.drop_zero] at h1
  exact ⟨h1, h2, size_turn a (D a b) (-1) 0 (by omega) hr⟩
end Go.Proofs.YtnehgogajghefaaGreatDoor.Df
namespace Go.Proofs.YtnehgogajghefaaGreatDoor.Hu
open Go Go.RowKit Kt Lw Li Df

theorem run_append_nothingE {P : Program} {w : World} {t ty e : TypeId} {i : TypeInfo} (ht : P.underlying t = some (.slice e)) (hi : P.info? e = some i) {B size : Nat}
    {v : Value} {n : Nat} {xs : List Value} (hown : w.ownsRow B e size v n xs) (c : Nat) : (Builtin.append_ #[t, t] ty #[v, .slice none 0 c]).run P w = .ok v w := by
  rcases hown.2 with ⟨rfl, rfl⟩ | ⟨g, cap, cur, rfl, _, _, hnc, _⟩
  · simp [Builtin.append_, run_underlying ht, sizeOf, typeInfo, hi, Builtin.lenOf, Builtin.firstCells]
  · simp [Builtin.append_, run_underlying ht, sizeOf, typeInfo, hi, Builtin.lenOf, Builtin.firstCells, hnc, storeCells]
theorem pairs_one {w : World} {B : Nat} (V : List (Ed × Value)) (h : ∀ p ∈ V, OwT w B tS p.2 p.1.ins) : ∀ u ∈ V.flatMap pairC, u.oneCell' = true := by
  intro u hu
  obtain ⟨p, hp, hu⟩ := List.mem_flatMap.1 hu
  simp only [pairC, edC, List.mem_cons, List.not_mem_nil, or_false] at hu
  rcases hu with rfl | rfl | rfl
  · rfl
  · rfl
  · exact OwT.one (h p hp)
/-- append(l, edits..), both of the call's own -/
theorem wp_catE {o : Oper} {a : Act} {K : Act → World → Prop} {Q : Exit → Act → World → Prop} {W : World} (s x : Operand)
    (ho : o.op = .call { callee := .builtin .append, args := #[s, x], argTypes := #[25, 25] })
    (B : Nat) (w0 : World) (v u : Value) (L M : List Ed) (hs : a.eval s = v) (hx : a.eval x = u)
    (hown : OwE W B v L) (hu : OwE W B u M) (hlen : L.length + M.length ≤ 1000000000) (hb : Below B w0 W) (hbase : B ≤ W.heap.size)
    (h : ∀ v' w', OwE w' B v' (L ++ M) → Below B w0 w' → W.grownBy w' v.ownBlock → K (a.put o.dst v') w') : o.wp Tryz.prog a W K Q := by
  obtain ⟨i0, hi0, hz0, hz1, hz2⟩ := info_parts infoEd
  obtain ⟨V, hV, hr, hi⟩ := hown
  obtain ⟨V2, hV2, hr2, hi2⟩ := hu
  rcases hr2.2 with ⟨rfl, h0⟩ | ⟨g2, cap2, cur2, rfl, hB2, hg2, hnc2, hcm2, hsz2, ht2⟩
  · have hM : M = [] := List.eq_nil_of_length_eq_zero h0
    subst hM
    have hrun := run_append_nothingE (P := Tryz.prog) (ty := o.type) Tryz.underlying25 hi0 hr 0
    unfold Oper.wp execOp
    simp only [ho, resolve, invoke, builtin, Sem.run_bind, Sem.run_pure, Result.andThen_ok, List.map_toArray, List.map_cons, List.map_nil, hs, hx, hrun]
    exact h v W (by rw [List.append_nil]; exact ⟨V, hV, hr, hi⟩) hb (World.grownBy.refl _ _)
  · have hl2 : (V2.flatMap pairC).length = M.length * 3 := by rw [flat_len pairC 3 pairC_len, ← hV2, List.length_map]
    refine wp_append_own _ s x 25 ho B tE i0 (.agg #[.int .i64 0, .int .i64 0, .slice none 0 0]) 3 40 Tryz.underlying25 hi0 hz0 hz1 hz2 rfl (by omega) v L.length (V.flatMap pairC) hs hr
      ⟨g2, 0, none⟩ M.length cap2 (V2.flatMap pairC) hx hl2 (fun j u hu => ?_) (pairs_one V2 hi2) (by unfold maxLen; omega) (by omega) hbase (fun v' w' h1 h2 _ => ?_)
    · have hj : j < M.length * 3 := by have := (List.getElem?_eq_some_iff.1 hu).1; rwa [hl2] at this
      rw [Addr.add_mid, Nat.zero_add, World.ownsRow.cellAt (cap := cap2) hr2 j hj]
      exact hu
    · have key : ∀ (y : Value) (l : Ls), OwT W B tS y l → OwT w' B tS y l := by
        intro y l hy
        refine World.ownsRow.kept hy h2 ?_
        rcases hy.2 with ⟨rfl, _⟩ | ⟨g, cap, cur, rfl, _, hgg, _⟩
        · exact .inl rfl
        · right
          intro he
          rcases hr.2 with ⟨rfl, _⟩ | ⟨g', cap', cur', rfl, _, hgg', _⟩
          · cases he
          · simp only [Value.ownBlock, Option.some.injEq] at he
            subst he
            rw [hgg] at hgg'
            simp [tS, tE] at hgg'
      refine h v' w' ⟨V ++ V2, by simp [hV, hV2], ?_, fun p hp => ?_⟩ (hb.grown h2 hbase fun k hk => (World.ownsRow.lt hr k hk).1) h2
      · rw [List.flatMap_append, List.length_append]
        exact h1
      · rcases List.mem_append.1 hp with hp | hp
        · exact key _ _ (hi p hp)
        · exact key _ _ (hi2 p hp)
theorem wpList_catE {ops : Array Oper} {rest : List Oper} {o : Oper} {a : Act} {Q : Exit → Act → World → Prop} {W : World} (hgd : o.guard = none) (s x : Operand)
    (ho : o.op = .call { callee := .builtin .append, args := #[s, x], argTypes := #[25, 25] })
    (B : Nat) (w0 : World) (v u : Value) (L M : List Ed) (hs : a.eval s = v) (hx : a.eval x = u)
    (hown : OwE W B v L) (hu : OwE W B u M) (hlen : L.length + M.length ≤ 1000000000) (hb : Below B w0 W) (hbase : B ≤ W.heap.size)
    (h : ∀ v' w', OwE w' B v' (L ++ M) → Below B w0 w' → W.grownBy w' v.ownBlock → wpList Tryz.prog ops Q rest (a.put o.dst v') w') : wpList Tryz.prog ops Q (o :: rest) a W :=
  wpList_plain hgd fun _ hK => wp_catE s x ho B w0 v u L M hs hx hown hu hlen hb hbase fun v' w' h1 h2 h3 => hK _ _ (h v' w' h1 h2 h3)
/-- what the laws on two lists of lines need of the hunks between them -/
theorem hs_facts (a b : Ls) (r : Nat) (ha : a.length ≤ 40) (hb : b.length ≤ 40) (hxa : ∀ x ∈ a, x.length ≤ 140737488351232) (hxb : ∀ x ∈ b, x.length ≤ 140737488351232) :
    (∀ e ∈ D a b, ∀ x ∈ e.ins, x.length ≤ 9223372036854775806) ∧ (mkHs a r 0 (D a b)).length ≤ 200 ∧
      ∀ h ∈ mkHs a r 0 (D a b), hright h = true ∧ h.lines.length ≤ 1000 ∧ (0 ≤ h.a ∧ h.a ≤ 40) ∧ (-1000 ≤ h.b ∧ h.b ≤ 1000) ∧ ∀ x ∈ h.lines, x.length ≤ 9223372036854775806 := by
  have hs := D_small a b (by omega) (by omega)
  have hR := D_right a b
  have hi : ∀ e ∈ D a b, ∀ y ∈ e.ins, y.length ≤ 140737488351232 := fun e he y hy => hxb y (D_ins a b e he y hy)
  refine ⟨fun e he x hx => Nat.le_trans (hi e he x hx) (by omega), Nat.le_trans (mk_le a r 0 (D a b)) hs.2, fun h hh => ?_⟩
  obtain ⟨h1, h2, h3, h4⟩ := mk_bounds a r 140737488351232 hxa _ (D a b) 0 (-1) (Nat.le_refl _) hR (by omega) hi h hh
  have := (mk_start a r (D a b) hR).1 h hh
  exact ⟨this, by omega, by omega, by omega, fun x hx => Nat.le_trans (h4 x hx) (by omega)⟩
end Go.Proofs.YtnehgogajghefaaGreatDoor.Hu
namespace Go.Proofs.YtnehgogajghefaaGreatDoor.Un
open Go Df Li Hu

theorem pts_all (a : Ls) (r : Nat) (P : List UInt8 → Prop) (ha : ∀ y ∈ a, P y) : ∀ (g : List Ed) (z : Nat), (∀ e ∈ g, ∀ y ∈ e.ins, P y) → ∀ x ∈ lay (pts a r z g), ∃ s y, x = s :: y ∧ s ≠ 10 ∧ P y
  | [], z, _, x, hx => by
    rw [pts] at hx
    split at hx
    · cases hx
    · simp only [lay, layP, mk, List.map_nil, List.append_nil, List.mem_map] at hx
      obtain ⟨y, hy, rfl⟩ := hx
      exact ⟨32, y, rfl, by decide, ha y (List.mem_of_mem_drop (List.mem_of_mem_take hy))⟩
  | e :: g, z, he, x, hx => by
    rw [pts, lay, List.mem_append] at hx
    rcases hx with hx | hx
    · simp only [layP, mk, List.mem_append, List.mem_map] at hx
      rcases hx with ⟨y, hy, rfl⟩ | ⟨y, hy, rfl⟩ | ⟨y, hy, rfl⟩
      · exact ⟨32, y, rfl, by decide, ha y (List.mem_of_mem_drop (List.mem_of_mem_take hy))⟩
      · exact ⟨45, y, rfl, by decide, ha y (List.mem_of_mem_drop (List.mem_of_mem_take hy))⟩
      · exact ⟨43, y, rfl, by decide, he e (List.mem_cons_self ..) y hy⟩
    · exact pts_all a r P ha g _ (fun e' h' => he e' (List.mem_cons_of_mem _ h')) x hx
theorem mk_all (a : Ls) (r : Nat) (P : List UInt8 → Prop) (ha : ∀ y ∈ a, P y) : ∀ (k : Nat) (l : List Ed) (more : Int), l.length ≤ k → (∀ e ∈ l, ∀ y ∈ e.ins, P y) →
    ∀ h ∈ mkHs a r more l, ∀ x ∈ h.lines, ∃ s y, x = s :: y ∧ s ≠ 10 ∧ P y
  | _, [], more, _, _, h, hh => by rw [mkHs_nil] at hh; cases hh
  | 0, e :: l, _, h, _, _, _ => by simp at h
  | k + 1, e :: l, more, hk, hi, h, hh => by
    have hsp := spl_eq r l e
    have hsl := spl_len r l e
    rw [mkHs_cons] at hh
    simp only [List.length_cons] at hk
    rcases List.mem_cons.1 hh with rfl | hh
    · exact pts_all a r P ha _ _ (fun e' h' => hi e' (by
        rcases List.mem_cons.1 h' with rfl | h'
        · exact List.mem_cons_self ..
        · exact List.mem_cons_of_mem _ (by rw [← hsp]; exact List.mem_append_left _ h')))
    · exact mk_all a r P ha k _ _ (by omega) (fun e' h' => hi e' (List.mem_cons_of_mem _ (by rw [← hsp]; exact List.mem_append_right _ h'))) h hh
theorem one_sign {s : UInt8} {y : List UInt8} (hs : s ≠ 10) (h : lns y = [y]) : lns (s :: y) = [s :: y] := by
  obtain ⟨z, b, rfl, hz⟩ := one_parts h
  exact lns_one (s :: z) b (by simp [hz, Ne.symm hs])
/-- how many old lines all have -/
def anS : List Hk → Int
  | [] => 0
  | h :: t => h.an + anS t
theorem rise_sum (n : Int) : ∀ (L : List Hk) (b : Bool) (e : Int), rise n b e L → e + anS L ≤ n
  | [], _, _, h => by
    have : _ ≤ n := h
    rw [anS]; omega
  | h :: t, b, e, hr => by
    obtain ⟨h1, _, h3⟩ := hr
    have := rise_sum n t true _ h3
    rw [anS]; omega
theorem lay_new : ∀ (ps : List Pt) (z : Int), (many 43 (lay ps) : Int) ≤ many 45 (lay ps) + size (edP z ps)
  | [], _ => by simp [lay, many, edP, size]
  | p :: r, z => by
    have ih := lay_new r (z + p.st.length + p.gn.length)
    rw [lay, edP, many_append, many_append, many_old, many_new, size_append]
    have hz : (size (emitZ (z + p.st.length) p.gn.length p.cm) : Int) = p.gn.length + p.cm.length := by
      unfold emitZ
      split
      · rename_i h
        have h1 : p.gn.length = 0 := by omega
        rw [h.2, size]; simp; omega
      · show max 0 (p.gn.length : Int) + (p.cm.length : Int) + 0 = _
        omega
    rw [hz]
    omega
theorem lay_both : ∀ ps : List Pt, (lay ps).length ≤ many 45 (lay ps) + many 43 (lay ps)
  | [] => by simp [lay]
  | p :: r => by
    have ih := lay_both r
    rw [lay_len, lay, many_append, many_append, many_old, many_new]
    omega
theorem hk_lines {h : Hk} (hr : hright h = true) : (h.lines.length : Int) ≤ 2 * h.an + size (hedits h) ∧ 0 ≤ h.an := by
  obtain ⟨_, _, _, h4, h5⟩ := (hright_iff h).1 hr
  obtain ⟨ps, _, e1, e2, _⟩ := hparts hr
  have k1 := lay_both ps
  have k2 := lay_new ps h.a
  rw [← e1] at k1 k2
  rw [e2, h4]
  omega
theorem lines_sum : ∀ L : List Hk, (∀ h ∈ L, hright h = true) → (((L.map fun h => h.lines.length).sum : Nat) : Int) ≤ 2 * anS L + size (L.flatMap hedits) ∧ 0 ≤ anS L
  | [], _ => by simp [anS, size]
  | h :: t, hr => by
    obtain ⟨i1, i2⟩ := lines_sum t fun h' hh => hr h' (by simp [hh])
    obtain ⟨k1, k2⟩ := hk_lines (hr h (by simp))
    rw [List.map_cons, List.sum_cons, List.flatMap_cons, size_append, anS]
    omega
theorem linesT_short : ∀ l : Ls, (∀ x ∈ l, x.length ≤ 101) → ((l.map lineT).flatten).length ≤ 130 * l.length
  | [], _ => by simp
  | x :: l, h => by
    have h1 := linesT_short l fun y hy => h y (by simp [hy])
    have h2 := (lineT_len x).2
    have h3 := h x (by simp)
    rw [List.map_cons, List.flatten_cons, List.length_append, List.length_cons]
    omega
theorem hksT_short : ∀ L : List Hk, (∀ h ∈ L, (headT h.a h.an h.b h.bn).length ≤ 56 ∧ ∀ x ∈ h.lines, x.length ≤ 101) → ((L.map hkT).flatten).length ≤ 56 * L.length + 130 * (L.map fun h => h.lines.length).sum
  | [], _ => by simp
  | h :: t, hh => by
    have h1 := hksT_short t fun y hy => hh y (by simp [hy])
    obtain ⟨h2, h3⟩ := hh h (by simp)
    have h4 := linesT_short h.lines h3
    rw [List.map_cons, List.flatten_cons, List.length_append, List.length_cons, List.map_cons, List.sum_cons, hkT, List.length_append]
    omega
/-- the hunks between two texts of up to a hundred bytes -/
theorem whole_facts (s t : List UInt8) (hs : s.length ≤ 100) (ht : t.length ≤ 100) (r : Nat) (HL : List Hk) (hHL : HL = mkHs (lns s) r 0 (D (lns s) (lns t))) :
    HL.all tell = true ∧ (prt HL).length ≤ 63200 ∧ ((HL.map hkT).flatten).length ≤ 63200 ∧ (∀ h ∈ HL, Fit h) ∧ HL.length ≤ 200 ∧ HL.flatMap hedits = D (lns s) (lns t) ∧
      (∀ h ∈ HL, hright h = true ∧ h.lines.length ≤ 1000 ∧ (0 ≤ h.a ∧ h.a ≤ 100) ∧ ∀ x ∈ h.lines, x.length ≤ 101) ∧ (∀ e ∈ D (lns s) (lns t), ∀ x ∈ e.ins, x.length ≤ 9223372036854775806) ∧ ∀ x ∈ lns s, x.length ≤ 100 := by
  have ha := Nat.le_trans (lns_len_le s) hs
  have hb := Nat.le_trans (lns_len_le t) ht
  have hmem : ∀ (u x : List UInt8), x ∈ lns u → x.length ≤ u.length := by
    intro u x hx
    have h1 := flat_mem (fun y : List UInt8 => y) hx
    rw [List.map_id', lns_flat] at h1
    exact h1
  have hsm := D_small (lns s) (lns t) ha hb
  have hR := D_right (lns s) (lns t)
  have hi : ∀ e ∈ D (lns s) (lns t), ∀ y ∈ e.ins, y.length ≤ 100 := fun e he y hy => Nat.le_trans (hmem t y (D_ins _ _ e he y hy)) ht
  have hi1 : ∀ e ∈ D (lns s) (lns t), ∀ y ∈ e.ins, lns y = [y] := fun e he y hy => lns_ones t y (D_ins _ _ e he y hy)
  have hxs : ∀ x ∈ lns s, x.length ≤ 100 := fun x hx => Nat.le_trans (hmem s x hx) hs
  obtain ⟨f1, f2, _, f4⟩ := mk_start (lns s) r (D (lns s) (lns t)) hR
  have hbo := mk_bounds (lns s) r 100 hxs _ (D (lns s) (lns t)) 0 (-1) (Nat.le_refl _) hR (by omega) hi
  have hone := mk_all (lns s) r (fun y => lns y = [y]) (lns_ones s) _ (D (lns s) (lns t)) 0 (Nat.le_refl _) hi1
  have hlen : (mkHs (lns s) r 0 (D (lns s) (lns t))).length ≤ 200 := Nat.le_trans (mk_le _ r 0 _) hsm.2
  rw [← hHL] at f1 f2 f4 hbo hone hlen
  have hsum := (lines_sum HL f1).1
  have hris := rise_sum _ _ _ _ f4
  rw [f2] at hsum
  have hall : ∀ h ∈ HL, hright h = true ∧ h.lines.length ≤ 1000 ∧ (0 ≤ h.a ∧ h.a ≤ 100) ∧ (0 ≤ h.b ∧ h.b ≤ 400) ∧ (0 ≤ h.an ∧ h.an ≤ 1000) ∧ (0 ≤ h.bn ∧ h.bn ≤ 1000) ∧ ∀ x ∈ h.lines, x.length ≤ 101 := by
    intro h hh
    obtain ⟨b1, b2, b3, b4⟩ := hbo h hh
    have hrt := f1 h hh
    obtain ⟨_, r2, r3, r4, r5⟩ := (hright_iff h).1 hrt
    have k1 := many_le 45 h.lines
    have k2 := many_le 43 h.lines
    exact ⟨hrt, by omega, by omega, by omega, by omega, by omega, b4⟩
  have htell : HL.all tell = true := by
    rw [List.all_eq_true]
    intro h hh
    obtain ⟨a1, a2, a3, a4, a5, a6, a7⟩ := hall h hh
    obtain ⟨r1, r2, r3, r4, r5⟩ := (hright_iff h).1 a1
    refine tell_iff.2 ⟨r1, ?_, ?_, r4, r5, fun x hx => ?_⟩
    · unfold Sml plc; omega
    · unfold Sml plc; omega
    · obtain ⟨c, y, rfl, hc, hy⟩ := hone h hh x hx
      exact one_sign hc hy
  have htxt : ((HL.map hkT).flatten).length ≤ 63200 := by
    have h1 := hksT_short HL fun h hh => by
      obtain ⟨a1, a2, a3, a4, a5, a6, a7⟩ := hall h hh
      exact ⟨headT_len _ _ _ _ (by omega) (by omega) (by omega) (by omega), a7⟩
    omega
  refine ⟨htell, by rw [prt_flat htell]; exact htxt, htxt, fun h hh => ?_, hlen, f2, fun h hh => ?_, fun e he x hx => Nat.le_trans (hi e he x hx) (by omega), hxs⟩
  · obtain ⟨a1, a2, a3, a4, a5, a6, a7⟩ := hall h hh
    exact ⟨by omega, by omega, by omega, fun x hx => Nat.le_trans (a7 x hx) (by omega)⟩
  · obtain ⟨a1, a2, a3, a4, a5, a6, a7⟩ := hall h hh
    exact ⟨a1, a2, a3, a7⟩
end Go.Proofs.YtnehgogajghefaaGreatDoor.Un
