/-
  Rows of hunks of the call's own, whose lines lie in memory of others.
-/
import Derived.Test.YtfmmececocilhaaHM
namespace Go.Proofs.Ytfmmececocilhaa.Hu
open Go Go.RowKit Kt Lw Li Df

/-- a hunk's lines lie below B -/
def LnB (w : World) (B : Nat) (p : Hk × Value) : Prop := ∃ A c, p.2 = .slice A p.1.lines.length c ∧ Vs w (fun b => b < B) A c (texts p.1.lines)
def OwS (w : World) (B : Nat) (v : Value) (L : List Hk) : Prop :=
  ∃ V : List (Hk × Value), V.map (·.1) = L ∧ w.ownsRow B tH 5 v L.length (V.flatMap hkP) ∧ ∀ p ∈ V, LnB w B p
theorem LnB.keep {w w' : World} {B : Nat} {p : Hk × Value} (h : LnB w B p) (hb : Below B w w') : LnB w' B p := by
  obtain ⟨A, c, e, hv⟩ := h
  exact ⟨A, c, e, Lw.Vs.move hv fun b hp _ => hb.block b hp⟩
theorem LnB.one {w : World} {B : Nat} {p : Hk × Value} (h : LnB w B p) : p.2.oneCell' = true := by
  obtain ⟨A, c, e, _⟩ := h
  rw [e]; rfl
theorem OwS.nil (w : World) (B : Nat) : OwS w B (.slice none 0 0) [] := ⟨[], rfl, World.ownsRow_nil _ _ _ _, fun p h => by cases h⟩
theorem OwS.lit0 (w : World) (B : Nat) (hB : B ≤ w.heap.size) : OwS (w.alloc (.cells #[] tH)) B (.slice (some ⟨w.heap.size, 0, none⟩) 0 0) [] :=
  ⟨[], rfl, World.ownsRow_lit (e := tH) (size := 5) (base := B) w #[] 0 hB (Nat.zero_le _) (by simp), fun p h => by cases h⟩
theorem OwS.hks {w : World} {B : Nat} {v : Value} {L : List Hk} (h : OwS w B v L) : ∃ A c, v = .slice A L.length c ∧ Hks w A c L := by
  obtain ⟨V, rfl, hr, hi⟩ := h
  rcases hr.2 with ⟨rfl, h0⟩ | ⟨g, cap, cur, rfl, hB, hg, hnc, hcm, hs, ht⟩
  · have e : V.map (·.1) = [] := List.eq_nil_of_length_eq_zero h0
    rw [e]
    exact ⟨none, 0, rfl, Hks.nil _ _ _⟩
  · refine ⟨_, cap, rfl, hnc, fun _ => ⟨g, 0, rfl, (Array.getElem?_eq_some_iff.1 hg).1, fun j e hj => ?_⟩⟩
    rw [List.getElem?_map] at hj
    cases hp : V[j]? with
    | none => rw [hp] at hj; cases hj
    | some p =>
      rw [hp] at hj
      simp at hj
      subst hj
      have hjl : j < V.length := (List.getElem?_eq_some_iff.1 hp).1
      obtain ⟨A', c', hv, hvs⟩ := hi p (List.mem_of_getElem? hp)
      refine ⟨A', c', fun k u hk => ?_, Lw.Vs.bound hvs⟩
      have hk3 : k < 5 := (List.getElem?_eq_some_iff.1 hk).1
      have := World.ownsRow.cellAt (cap := cap) hr (5 * j + k) (by rw [List.length_map]; omega)
      rw [Nat.zero_add, this, flat_at hkP 5 hkP_len V j k p hp hk3]
      unfold hkP
      rw [hv]
      exact hk
/-- hunks that came in, as pairs -/
theorem Hks.pairs {w : World} {A : Option Addr} {c : Nat} {L : List Hk} (h : Hks w A c L) : ∃ V : List (Hk × Value), V.map (·.1) = L ∧ (∀ p ∈ V, LnB w w.heap.size p) ∧
    (0 < L.length → ∃ b o, A = some ⟨b, o, none⟩ ∧ b < w.heap.size ∧ ∀ j u, (V.flatMap hkP)[j]? = some u → w.cell? ⟨b, o + j, none⟩ = some u) := by
  by_cases hn : 0 < L.length
  · obtain ⟨b, o, rfl, hlt, he⟩ := h.2 hn
    have : ∀ i, i < L.length → ∃ p : Hk × Value, L[i]? = some p.1 ∧ LnB w w.heap.size p ∧ ∀ k u, (hkP p)[k]? = some u → w.cell? ⟨b, o + 5 * i + k, none⟩ = some u := fun i hi => by
      obtain ⟨A', c', hr, hv⟩ := he i _ (List.getElem?_eq_getElem hi)
      exact ⟨(L[i], .slice A' (L[i]).lines.length c'), List.getElem?_eq_getElem hi, ⟨A', c', rfl, hv⟩, fun k u hk => hr k u hk⟩
    have key : ∀ n, n ≤ L.length → ∃ V : List (Hk × Value), V.map (·.1) = L.take n ∧ (∀ p ∈ V, LnB w w.heap.size p) ∧ ∀ j p, V[j]? = some p → ∀ k u, (hkP p)[k]? = some u → w.cell? ⟨b, o + 5 * j + k, none⟩ = some u := by
      intro n
      induction n with
      | zero => exact fun _ => ⟨[], rfl, (fun p h => by cases h), fun j p h => by simp at h⟩
      | succ n ih =>
        intro hn
        obtain ⟨V, h1, h2, h3⟩ := ih (by omega)
        obtain ⟨p, p1, p2, p3⟩ := this n (by omega)
        have hVl : V.length = n := by have := congrArg List.length h1; rw [List.length_map, List.length_take] at this; omega
        refine ⟨V ++ [p], ?_, fun q hq => ?_, fun j q hq => ?_⟩
        · rw [List.map_append, h1, List.take_add_one, p1]; rfl
        · rcases List.mem_append.1 hq with hq | hq
          · exact h2 q hq
          · rw [List.mem_singleton.1 hq]; exact p2
        · rcases Nat.lt_or_ge j n with hlt | hge
          · rw [List.getElem?_append_left (by omega)] at hq
            exact h3 j q hq
          · have hjl := (List.getElem?_eq_some_iff.1 hq).1
            simp [hVl] at hjl
            obtain rfl : j = n := by omega
            rw [List.getElem?_append_right (by omega), hVl, Nat.sub_self] at hq
            simp at hq
            subst hq
            exact p3
    obtain ⟨V, h1, h2, h3⟩ := key L.length (Nat.le_refl _)
    rw [List.take_length] at h1
    refine ⟨V, h1, h2, fun _ => ⟨b, o, rfl, hlt, fun j u hj => ?_⟩⟩
    have hjl := (List.getElem?_eq_some_iff.1 hj).1
    rw [flat_len hkP 5 hkP_len] at hjl
    have e : 5 * (j / 5) + j % 5 = j := Nat.div_add_mod j 5
    have hd : j / 5 < V.length := by omega
    have hm : j % 5 < 5 := Nat.mod_lt _ (by omega)
    have h4 := flat_at hkP 5 hkP_len V (j / 5) (j % 5) _ (List.getElem?_eq_getElem hd) hm
    rw [e, hj] at h4
    have h5 := h3 (j / 5) _ (List.getElem?_eq_getElem hd) (j % 5) u h4.symm
    rwa [show o + 5 * (j / 5) + j % 5 = o + j by omega] at h5
  · have h0 : L = [] := List.eq_nil_of_length_eq_zero (by omega)
    exact ⟨[], by rw [h0]; rfl, (fun p h => by cases h), fun h => absurd h hn⟩
theorem pairsS_one {w : World} {B : Nat} (V : List (Hk × Value)) (h : ∀ p ∈ V, LnB w B p) : ∀ u ∈ V.flatMap hkP, u.oneCell' = true := by
  intro u hu
  obtain ⟨p, hp, hu⟩ := List.mem_flatMap.1 hu
  simp only [hkP, hkC, List.mem_cons, List.not_mem_nil, or_false] at hu
  rcases hu with rfl | rfl | rfl | rfl | rfl
  · rfl
  · rfl
  · rfl
  · rfl
  · exact (h p hp).one
theorem run_append_nothingH {P : Program} {w : World} {t ty e : TypeId} {i : TypeInfo} (ht : P.underlying t = some (.slice e)) (hi : P.info? e = some i) {B size : Nat}
    {v : Value} {n : Nat} {xs : List Value} (hown : w.ownsRow B e size v n xs) (A : Option Addr) (c : Nat) (hA : A = none) : (Builtin.append_ #[t, t] ty #[v, .slice A 0 c]).run P w = .ok v w := by
  subst hA
  rcases hown.2 with ⟨rfl, rfl⟩ | ⟨g, cap, cur, rfl, _, _, hnc, _⟩
  · simp [Builtin.append_, run_underlying ht, sizeOf, typeInfo, hi, Builtin.lenOf, Builtin.firstCells]
  · simp [Builtin.append_, run_underlying ht, sizeOf, typeInfo, hi, Builtin.lenOf, Builtin.firstCells, hnc, storeCells]
theorem OwS.grow {w w' : World} {B : Nat} {v' : Value} {L : List Hk} (V V2 : List (Hk × Value)) (hV : V.map (·.1) = L) (hi : ∀ p ∈ V, LnB w B p) (hi2 : ∀ p ∈ V2, LnB w B p)
    (h' : w'.ownsRow B tH 5 v' (L.length + V2.length) (V.flatMap hkP ++ V2.flatMap hkP)) (hb : Below B w w') : OwS w' B v' (L ++ V2.map (·.1)) := by
  refine ⟨V ++ V2, by simp [hV], ?_, fun p hp => ?_⟩
  · rw [List.flatMap_append, List.length_append, List.length_map]
    exact h'
  · rcases List.mem_append.1 hp with hp | hp
    · exact (hi p hp).keep hb
    · exact (hi2 p hp).keep hb
set_option maxRecDepth 100000 in
/-- append(s, hunks..): hunks that came in -/
theorem wp_catS {o : Oper} {a : Act} {K : Act → World → Prop} {Q : Exit → Act → World → Prop} {W : World} (s x : Operand)
    (ho : o.op = .call { callee := .builtin .append, args := #[s, x], argTypes := #[23, 23] })
    (w0 : World) (v : Value) (L M : List Hk) (A : Option Addr) (c : Nat) (hs : a.eval s = v) (hx : a.eval x = .slice A M.length c)
    (hown : OwS W w0.heap.size v L) (hM : Hks w0 A c M) (hlen : L.length + M.length ≤ 1000000000) (hb : Below w0.heap.size w0 W)
    (h : ∀ v' w', OwS w' w0.heap.size v' (L ++ M) → Below w0.heap.size w0 w' → K (a.put o.dst v') w') : o.wp Try.prog a W K Q := by
  obtain ⟨i0, hi0, hz0, hz1, hz2⟩ := info_parts infoHk
  obtain ⟨V, hV, hr, hi⟩ := hown
  obtain ⟨V2, hV2, hi2, hc2⟩ := hM.pairs
  have hlen2 : V2.length = M.length := by rw [← hV2, List.length_map]
  cases A with
  | none =>
    have h0 : M = [] := by
      cases M with
      | nil => rfl
      | cons b r => obtain ⟨_, _, he, _⟩ := hc2 (by simp); cases he
    subst h0
    have hrun := run_append_nothingH (P := Try.prog) (ty := o.type) Try.underlying23 hi0 hr none c rfl
    simp only [List.length_nil] at hx
    unfold Oper.wp execOp
    simp only [ho, resolve, invoke, builtin, Sem.run_bind, Sem.run_pure, Result.andThen_ok, List.map_toArray, List.map_cons, List.map_nil, hs, hx, hrun]
    exact h v W (by rw [List.append_nil]; exact ⟨V, hV, hr, hi⟩) hb
  | some ad =>
    refine wp_append_own _ s x 23 ho w0.heap.size tH i0 (.agg #[.int .i64 0, .int .i64 0, .int .i64 0, .int .i64 0, .slice none 0 0]) 5 56 Try.underlying23 hi0 hz0 hz1 hz2 rfl (by omega) v L.length (V.flatMap hkP) hs hr
      ad M.length c (V2.flatMap hkP) hx (by rw [flat_len hkP 5 hkP_len, hlen2]) (fun j u hu => ?_) (pairsS_one V2 hi2) (by unfold maxLen; omega) (by omega) hb.size (fun v' w' h1 h2 _ => ?_)
    · have hj : 0 < M.length := by
        have := (List.getElem?_eq_some_iff.1 hu).1
        rw [flat_len hkP 5 hkP_len, hlen2] at this
        omega
      obtain ⟨b, o', he, hlt, hcell⟩ := hc2 hj
      injection he with he
      subst he
      rw [Addr.add_mid]
      exact (World.cell?_of_block (a := ⟨b, o' + j, none⟩) (hb.block b hlt)).trans (hcell j u hu)
    · have hbw : Below w0.heap.size W w' := ⟨h2.os, h2.tape, h2.output, h2.size, fun k hk => h2.block k (Nat.lt_of_lt_of_le hk hb.size) (fun e => by
        have := (World.ownsRow.lt hr k e.symm).1
        omega)⟩
      have hg := OwS.grow (w' := w') V V2 hV hi (fun p hp => (hi2 p hp).keep hb) (by rw [hlen2]; exact h1) hbw
      rw [hV2] at hg
      exact h v' w' hg (hb.trans hbw)
theorem wpList_catS {ops : Array Oper} {rest : List Oper} {o : Oper} {a : Act} {Q : Exit → Act → World → Prop} {W : World} (hgd : o.guard = none) (s x : Operand)
    (ho : o.op = .call { callee := .builtin .append, args := #[s, x], argTypes := #[23, 23] })
    (w0 : World) (v : Value) (L M : List Hk) (A : Option Addr) (c : Nat) (hs : a.eval s = v) (hx : a.eval x = .slice A M.length c)
    (hown : OwS W w0.heap.size v L) (hM : Hks w0 A c M) (hlen : L.length + M.length ≤ 1000000000) (hb : Below w0.heap.size w0 W)
    (h : ∀ v' w', OwS w' w0.heap.size v' (L ++ M) → Below w0.heap.size w0 w' → wpList Try.prog ops Q rest (a.put o.dst v') w') : wpList Try.prog ops Q (o :: rest) a W :=
  wpList_plain hgd fun _ hK => wp_catS s x ho w0 v L M A c hs hx hown hM hlen hb fun v' w' h1 h2 => hK _ _ (h v' w' h1 h2)
/-- the same where the operation's guard says yes -/
theorem wpList_catSg {ops : Array Oper} {rest : List Oper} {o : Oper} {a : Act} {Q : Exit → Act → World → Prop} {W : World} (hgd : Region.wanted o (yielded ops a.tmps) = true) (s x : Operand)
    (ho : o.op = .call { callee := .builtin .append, args := #[s, x], argTypes := #[23, 23] })
    (w0 : World) (v : Value) (L M : List Hk) (A : Option Addr) (c : Nat) (hs : a.eval s = v) (hx : a.eval x = .slice A M.length c)
    (hown : OwS W w0.heap.size v L) (hM : Hks w0 A c M) (hlen : L.length + M.length ≤ 1000000000) (hb : Below w0.heap.size w0 W)
    (h : ∀ v' w', OwS w' w0.heap.size v' (L ++ M) → Below w0.heap.size w0 w' → wpList Try.prog ops Q rest (a.put o.dst v') w') : wpList Try.prog ops Q (o :: rest) a W :=
  wpList_step fun K hK => by
    rw [if_pos hgd]
    exact wp_catS s x ho w0 v L M A c hs hx hown hM hlen hb fun v' w' h1 h2 => hK _ _ (h v' w' h1 h2)
end Go.Proofs.Ytfmmececocilhaa.Hu
