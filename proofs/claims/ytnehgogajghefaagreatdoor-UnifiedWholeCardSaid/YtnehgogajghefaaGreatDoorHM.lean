/-
  Rows of hunks; hunk.Make.
-/
import Derived.Test.YtnehgogajghefaaGreatDoorHL
namespace Go.Proofs.YtnehgogajghefaaGreatDoor.Hu
open Go Go.RowKit Kt Lw Li Df

/-- a hunk's cells -/
def hkC (h : Hk) (vi : Value) : List Value := [.int .i64 h.a, .int .i64 h.an, .int .i64 h.b, .int .i64 h.bn, vi]
def hkP (p : Hk × Value) : List Value := hkC p.1 p.2
theorem hkP_len (p : Hk × Value) : (hkP p).length = 5 := rfl
/-- hunks in a row of the call's own, with lines in rows of its own -/
def OwH (w : World) (B : Nat) (v : Value) (L : List Hk) : Prop :=
  ∃ V : List (Hk × Value), V.map (·.1) = L ∧ w.ownsRow B tH 5 v L.length (V.flatMap hkP) ∧ ∀ p ∈ V, OwT w B tS p.2 p.1.lines
/-- '.slice A n c' reads as these hunks -/
def Hks (w : World) (A : Option Addr) (c : Nat) (L : List Hk) : Prop :=
  L.length ≤ c ∧ (0 < L.length → ∃ b o, A = some ⟨b, o, none⟩ ∧ b < w.heap.size ∧ ∀ j h, L[j]? = some h →
    ∃ A' c', w.rangeAt b (o + 5 * j) (hkC h (.slice A' h.lines.length c')) ∧ Vs w (fun b => b < w.heap.size) A' c' (texts h.lines))
theorem OwH.nil (w : World) (B : Nat) : OwH w B (.slice none 0 0) [] := ⟨[], rfl, World.ownsRow_nil _ _ _ _, fun p h => by cases h⟩
theorem Hks.nil (w : World) (A : Option Addr) (c : Nat) : Hks w A c [] := ⟨Nat.zero_le _, fun h => by simp at h⟩
theorem Hks.keep {w w' : World} {A : Option Addr} {c : Nat} {L : List Hk} (h : Hks w A c L) (hb : Below w.heap.size w w') : Hks w' A c L :=
  ⟨h.1, fun hn => by
    obtain ⟨b, o, rfl, hlt, he⟩ := h.2 hn
    refine ⟨b, o, rfl, Nat.lt_of_lt_of_le hlt hb.size, fun j e hj => ?_⟩
    obtain ⟨A', c', hr, hv⟩ := he j e hj
    exact ⟨A', c', fun i v hi => (World.cell?_of_block (a := ⟨b, o + 5 * j + i, none⟩) (hb.block b hlt)).trans (hr i v hi), vs_keep hv hb⟩⟩
theorem OwH.hks {w : World} {B : Nat} {v : Value} {L : List Hk} (h : OwH w B v L) : ∃ A c, v = .slice A L.length c ∧ Hks w A c L := by
  obtain ⟨V, rfl, hr, hi⟩ := h
  rcases hr.2 with ⟨rfl, h0⟩ | ⟨g, cap, cur, rfl, hB, hg, hnc, hcm, hs, ht⟩
  · have e : V.map (·.1) = [] := List.eq_nil_of_length_eq_zero h0
    rw [e]
    exact ⟨none, 0, rfl, Hks.nil _ _ _⟩
  · refine ⟨_, cap, rfl, hnc, fun _ => ⟨g, 0, rfl, (Array.getElem?_eq_some_iff.1 hg).1, fun j e hj => ?_⟩⟩
    rw [List.getElem?_map] at hj
    cases hp : V[j]? with
    | none => rw [hp] at hj; cases hj
    | some p =>
      rw [hp] at hj
      simp at hj
      subst hj
      have hjl : j < V.length := (List.getElem?_eq_some_iff.1 hp).1
      obtain ⟨A', c', hv, hvs⟩ := (hi p (List.mem_of_getElem? hp)).vs
      refine ⟨A', c', fun k u hk => ?_, Lw.Vs.bound hvs⟩
      have hk3 : k < 5 := (List.getElem?_eq_some_iff.1 hk).1
      have := World.ownsRow.cellAt (cap := cap) hr (5 * j + k) (by rw [List.length_map]; omega)
      rw [Nat.zero_add, this, flat_at hkP 5 hkP_len V j k p hp hk3]
      unfold hkP
      rw [hv]
      exact hk
theorem OwH.keep {w w' : World} {B : Nat} {v : Value} {L : List Hk} (h : OwH w B v L) (hb : Below w.heap.size w w') : OwH w' B v L := by
  obtain ⟨V, hV, hr, hi⟩ := h
  refine ⟨V, hV, ⟨hr.1, ?_⟩, fun p hp => (hi p hp).kept hb⟩
  rcases hr.2 with ⟨h1, h2⟩ | ⟨g, cap, cur, hv', h1, h2, h3⟩
  · exact .inl ⟨h1, h2⟩
  · exact .inr ⟨g, cap, cur, hv', h1, (hb.block g (Array.getElem?_eq_some_iff.1 h2).1).trans h2, h3⟩
/-- append of one hunk -/
theorem OwH.append {w w' : World} {B : Nat} {v v' : Value} {L : List Hk} {e : Hk} {vi : Value} (V : List (Hk × Value)) (hV : V.map (·.1) = L) (hr : w.ownsRow B tH 5 v L.length (V.flatMap hkP))
    (hi : ∀ p ∈ V, OwT w B tS p.2 p.1.lines) (hvi : OwT w B tS vi e.lines) (h' : w'.ownsRow B tH 5 v' (L.length + 1) (V.flatMap hkP ++ hkC e vi)) (hg : w.grownBy w' v.ownBlock) : OwH w' B v' (L ++ [e]) := by
  have key : ∀ (u : Value) (l : Ls), OwT w B tS u l → OwT w' B tS u l := by
    intro u l hu
    refine World.ownsRow.kept hu hg ?_
    rcases hu.2 with ⟨rfl, _⟩ | ⟨g, cap, cur, rfl, _, hgg, _⟩
    · exact .inl rfl
    · right
      intro he
      rcases hr.2 with ⟨rfl, _⟩ | ⟨g', cap', cur', rfl, _, hgg', _⟩
      · cases he
      · simp only [Value.ownBlock, Option.some.injEq] at he
        subst he
        rw [hgg] at hgg'
        simp [tS, tH] at hgg'
  refine ⟨V ++ [(e, vi)], by simp [hV], ?_, fun p hp => ?_⟩
  · rw [List.flatMap_append, List.length_append]
    exact h'
  · rcases List.mem_append.1 hp with hp | hp
    · exact key _ _ (hi p hp)
    · obtain rfl : p = (e, vi) := by simpa using hp
      exact key _ _ hvi
theorem infoHk : (Tryz.prog.info? 36).map (fun i => (i.zero, i.size, i.bytes)) = some (some (.agg #[.int .i64 0, .int .i64 0, .int .i64 0, .int .i64 0, .slice none 0 0]), 5, 56) := by kernel_rfl
theorem wp_pushH {o : Oper} {a : Act} {K : Act → World → Prop} {Q : Exit → Act → World → Prop} {W : World} (s x : Operand)
    (ho : o.op = .call { callee := .builtin .append, args := #[s, x], argTypes := #[27, 27] })
    (B : Nat) (w0 : World) (v vi : Value) (L : List Hk) (e : Hk) (cs : Array Value) (hs : a.eval s = v) (hx : a.eval x = .slice (some ⟨W.heap.size, 0, none⟩) 1 1) (hc : cs = (hkC e vi).toArray)
    (hown : OwH W B v L) (hvi : OwT W B tS vi e.lines) (hlen : L.length + 1 ≤ 1000000000) (hb : Below B w0 W) (hbase : B ≤ W.heap.size)
    (h : ∀ v' w', OwH w' B v' (L ++ [e]) → Below B w0 w' → W.grownBy w' v.ownBlock → K (a.put o.dst v') w') : o.wp Tryz.prog a (W.alloc (.cells cs tH)) K Q := by
  obtain ⟨i0, hi0, hz0, hz1, hz2⟩ := info_parts infoHk
  subst hc
  obtain ⟨V, hV, hr, hi⟩ := hown
  refine wp_append_own _ s x 27 ho B tH i0 (.agg #[.int .i64 0, .int .i64 0, .int .i64 0, .int .i64 0, .slice none 0 0]) 5 56 Tryz.underlying27 hi0 hz0 hz1 hz2 rfl (by omega) v L.length (V.flatMap hkP) hs (World.ownsRow.alloc hr _)
    ⟨W.heap.size, 0, none⟩ 1 1 (hkC e vi) hx rfl (fun j u hu => ?_) ?_ (by unfold maxLen; omega) (by omega) (by simp; omega) (fun v' w' h1 h2 _ => ?_)
  · rw [Addr.add_mid, (Row.fresh W tH (hkC e vi).toArray).cell]
    simpa using hu
  · intro u hu
    simp only [hkC, List.mem_cons, List.not_mem_nil, or_false] at hu
    rcases hu with rfl | rfl | rfl | rfl | rfl
    · rfl
    · rfl
    · rfl
    · rfl
    · exact OwT.one hvi
  · have hg := grownBy_back _ h2
    exact h v' w' (OwH.append V hV hr hi hvi h1 hg) (hb.grown hg hbase fun k hk => (World.ownsRow.lt hr k hk).1) hg
theorem wpList_pushH {ops : Array Oper} {rest : List Oper} {o : Oper} {a : Act} {Q : Exit → Act → World → Prop} {W : World} (hgd : o.guard = none) (s x : Operand)
    (ho : o.op = .call { callee := .builtin .append, args := #[s, x], argTypes := #[27, 27] })
    (B : Nat) (w0 : World) (v vi : Value) (L : List Hk) (e : Hk) (cs : Array Value) (hs : a.eval s = v) (hx : a.eval x = .slice (some ⟨W.heap.size, 0, none⟩) 1 1) (hc : cs = (hkC e vi).toArray)
    (hown : OwH W B v L) (hvi : OwT W B tS vi e.lines) (hlen : L.length + 1 ≤ 1000000000) (hb : Below B w0 W) (hbase : B ≤ W.heap.size)
    (h : ∀ v' w', OwH w' B v' (L ++ [e]) → Below B w0 w' → W.grownBy w' v.ownBlock → wpList Tryz.prog ops Q rest (a.put o.dst v') w') : wpList Tryz.prog ops Q (o :: rest) a (W.alloc (.cells cs tH)) :=
  wpList_plain hgd fun _ hK => wp_pushH s x ho B w0 v vi L e cs hs hx hc hown hvi hlen hb hbase fun v' w' h1 h2 h3 => hK _ _ (h v' w' h1 h2 h3)
/-- the hunk number k, in a world behind -/
theorem Hks.at {w w' : World} {A : Option Addr} {c : Nat} {L : List Hk} (h : Hks w A c L) (hb : Below w.heap.size w w') {k : Nat} (hk : k < L.length) :
    ∃ b o e A' c', A = some ⟨b, o, none⟩ ∧ L[k]? = some e ∧ (w'.cell? ⟨b, o + k * 5, none⟩ = some (.int .i64 e.a) ∧ w'.cell? ⟨b, o + k * 5 + 1, none⟩ = some (.int .i64 e.an) ∧ w'.cell? ⟨b, o + k * 5 + 2, none⟩ = some (.int .i64 e.b) ∧ w'.cell? ⟨b, o + k * 5 + 3, none⟩ = some (.int .i64 e.bn) ∧
      w'.cell? ⟨b, o + k * 5 + 4, none⟩ = some (.slice A' e.lines.length c')) ∧ Vs w (fun b => b < w.heap.size) A' c' (texts e.lines) := by
  obtain ⟨b, o, rfl, hlt, he⟩ := h.2 (by omega)
  obtain ⟨A', c', h1, h2⟩ := he k _ (List.getElem?_eq_getElem hk)
  rw [Nat.mul_comm] at h1
  have h3 : ∀ i v, (hkC L[k] (.slice A' (L[k]).lines.length c'))[i]? = some v → w'.cell? ⟨b, o + k * 5 + i, none⟩ = some v := fun i v hi => (World.cell?_of_block (a := ⟨b, o + k * 5 + i, none⟩) (hb.block b hlt)).trans (h1 i v hi)
  exact ⟨b, o, _, A', c', rfl, List.getElem?_eq_getElem hk, ⟨h3 0 _ rfl, h3 1 _ rfl, h3 2 _ rfl, h3 3 _ rfl, h3 4 _ rfl⟩, h2⟩
/-- a slice of edits, cut -/
theorem es_take {w : World} {A : Option Addr} {c : Nat} {L : List Ed} (h : Es w A c L) (j : Nat) : Es w A c (L.take j) :=
  ⟨by have := h.1; rw [List.length_take]; omega, fun hn => by
    rw [List.length_take] at hn
    obtain ⟨b, o, rfl, hlt, he⟩ := h.2 (by omega)
    refine ⟨b, o, rfl, hlt, fun k e hk => he k e ?_⟩
    have hkl := (List.getElem?_eq_some_iff.1 hk).1
    rw [List.length_take] at hkl
    rw [← hk, List.getElem?_take, if_pos (by omega)]⟩
theorem es_drop {w : World} {b o c : Nat} {L : List Ed} (h : Es w (some ⟨b, o, none⟩) c L) (i : Nat) (hi : i ≤ L.length) : Es w (if c = i then some ⟨b, o, none⟩ else some ⟨b, o + i * 3, none⟩) (c - i) (L.drop i) :=
  ⟨by have := h.1; rw [List.length_drop]; omega, fun hn => by
    rw [List.length_drop] at hn
    obtain ⟨b', o', hA, hlt, he⟩ := h.2 (by omega)
    injection hA with hA
    injection hA with h1 h2 h3
    subst h1 h2
    have := h.1
    rw [if_neg (by omega)]
    refine ⟨b, o + i * 3, rfl, hlt, fun k e hk => ?_⟩
    rw [List.getElem?_drop] at hk
    have := he (i + k) e hk
    rw [show o + 3 * (i + k) = o + i * 3 + 3 * k by omega] at this
    exact this⟩
theorem run_cutE0 (w : World) (b o n c j : Nat) (hj : j ≤ c) :
    (Instr.slice 25 (.slice (some ⟨b, o, none⟩) n c) none (some (.int .i64 (j : Int))) none).run Tryz.prog w = .ok (.slice (some ⟨b, o, none⟩) j c) w := by
  have hu := run_underlying Tryz.underlying25
  go_simp
theorem run_cutE1 (w : World) (b o n c i : Nat) (hi : i ≤ n) (_hc : n ≤ c) :
    (Instr.slice 25 (.slice (some ⟨b, o, none⟩) n c) (some (.int .i64 (i : Int))) none none).run Tryz.prog w = .ok (.slice (if c = i then some ⟨b, o, none⟩ else some ⟨b, o + i * 3, none⟩) (n - i) (c - i)) w := by
  have hu := run_underlying Tryz.underlying25
  by_cases h : c = i
  · rw [if_pos h]
    go_simp
  · rw [if_neg h]
    go_simp
end Go.Proofs.YtnehgogajghefaaGreatDoor.Hu
