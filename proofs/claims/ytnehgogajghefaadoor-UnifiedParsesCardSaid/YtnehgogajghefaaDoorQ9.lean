/-
  Rows of hunks; hunk.Make.
-/
import Derived.Test.YtnehgogajghefaaDoorQ8
import Derived.Test.YtnehgogajghefaaDoorQ2
import Derived.Test.YtnehgogajghefaaDoorQ7
namespace Go.Proofs.YtnehgogajghefaaDoor.Hu
open Go Go.RowKit Kt Lw Li Df

/-- a hunk's cells -/
def hkC (h : Hk) (vi : Value) : List Value := [.int .i64 h.a, .int .i64 h.an, .int .i64 h.b, .int .i64 h.bn, vi]
def hkP (p : Hk × Value) : List Value := hkC p.1 p.2
theorem hkP_len (p : Hk × Value) : (hkP p).length = 5 := rfl
/-- hunks in a row of the call's own, with lines in rows of its own -/
def OwH (w : World) (B : Nat) (v : Value) (L : List Hk) : Prop :=
  ∃ V : List (Hk × Value), V.map (·.1) = L ∧ w.ownsRow B tH 5 v L.length (V.flatMap hkP) ∧ ∀ p ∈ V, OwT w B tS p.2 p.1.lines
/-- '.slice A n c' reads as these hunks -/
def Hks (w : World) (A : Option Addr) (c : Nat) (L : List Hk) : Prop :=
  L.length ≤ c ∧ (0 < L.length → ∃ b o, A = some ⟨b, o, none⟩ ∧ b < w.heap.size ∧ ∀ j h, L[j]? = some h →
    ∃ A' c', w.rangeAt b (o + 5 * j) (hkC h (.slice A' h.lines.length c')) ∧ Vs w (fun b => b < w.heap.size) A' c' (texts h.lines))
theorem OwH.nil (w : World) (B : Nat) : OwH w B (.slice none 0 0) [] := ⟨[], rfl, World.ownsRow_nil _ _ _ _, fun p h => by cases h⟩
theorem Hks.nil (w : World) (A : Option Addr) (c : Nat) : Hks w A c [] := ⟨Nat.zero_le _, fun h => by simp at h⟩
theorem Hks.keep {w w' : World} {A : Option Addr} {c : Nat} {L : List Hk} (h : Hks w A c L) (hb : Below w.heap.size w w') : Hks w' A c L :=
  ⟨h.1, fun hn => by
    obtain ⟨b, o, rfl, hlt, he⟩ := h.2 hn
    refine ⟨b, o, rfl, Nat.lt_of_lt_of_le hlt hb.size, fun j e hj => ?_⟩
    obtain ⟨A', c', hr, hv⟩ := he j e hj
    exact ⟨A', c', fun i v hi => (World.cell?_of_block (a := ⟨b, o + 5 * j + i, none⟩) (hb.block b hlt)).trans (hr i v hi), vs_keep hv hb⟩⟩
theorem OwH.hks {w : World} {B : Nat} {v : Value} {L : List Hk} (h : OwH w B v L) : ∃ A c, v = .slice A L.length c ∧ Hks w A c L := by
  obtain ⟨V, rfl, hr, hi⟩ := h
  rcases hr.2 with ⟨rfl, h0⟩ | ⟨g, cap, cur, rfl, hB, hg, hnc, hcm, hs, ht⟩
  · have e : V.map (·.1) = [] := List.eq_nil_of_length_eq_zero h0
    rw [e]
    exact ⟨none, 0, rfl, Hks.nil _ _ _⟩
  · refine ⟨_, cap, rfl, hnc, fun _ => ⟨g, 0, rfl, (Array.getElem?_eq_some_iff.1 hg).1, fun j e hj => ?_⟩⟩
    rw [List.getElem?_map] at hj
    cases hp : V[j]? with
    | none => rw [hp] at hj; cases hj
    | some p =>
      rw [hp] at hj
      simp at hj
      subst hj
      have hjl : j < V.length := (List.getElem?_eq_some_iff.1 hp).1
      obtain ⟨A', c', hv, hvs⟩ := (hi p (List.mem_of_getElem? hp)).vs
      refine ⟨A', c', fun k u hk => ?_, Lw.Vs.bound hvs⟩
      have hk3 : k < 5 := (List.getElem?_eq_some_iff.1 hk).1
      have := World.ownsRow.cellAt (cap := cap) hr (5 * j + k) (by rw [List.length_map]; omega)
      rw [Nat.zero_add, this, flat_at hkP 5 hkP_len V j k p hp hk3]
      unfold hkP
      rw [hv]
      exact hk
theorem OwH.keep {w w' : World} {B : Nat} {v : Value} {L : List Hk} (h : OwH w B v L) (hb : Below w.heap.size w w') : OwH w' B v L := by
  obtain ⟨V, hV, hr, hi⟩ := h
  refine ⟨V, hV, ⟨hr.1, ?_⟩, fun p hp => (hi p hp).kept hb⟩
  rcases hr.2 with ⟨h1, h2⟩ | ⟨g, cap, cur, hv', h1, h2, h3⟩
  · exact .inl ⟨h1, h2⟩
  · exact .inr ⟨g, cap, cur, hv', h1, (hb.block g (Array.getElem?_eq_some_iff.1 h2).1).trans h2, h3⟩
/-- append of one hunk -/
theorem OwH.append {w w' : World} {B : Nat} {v v' : Value} {L : List Hk} {e : Hk} {vi : Value} (V : List (Hk × Value)) (hV : V.map (·.1) = L) (hr : w.ownsRow B tH 5 v L.length (V.flatMap hkP))
    (hi : ∀ p ∈ V, OwT w B tS p.2 p.1.lines) (hvi : OwT w B tS vi e.lines) (h' : w'.ownsRow B tH 5 v' (L.length + 1) (V.flatMap hkP ++ hkC e vi)) (hg : w.grownBy w' v.ownBlock) : OwH w' B v' (L ++ [e]) := by
  have key : ∀ (u : Value) (l : Ls), OwT w B tS u l → OwT w' B tS u l := by
    intro u l hu
    refine World.ownsRow.kept hu hg ?_
    rcases hu.2 with ⟨rfl, _⟩ | ⟨g, cap, cur, rfl, _, hgg, _⟩
    · exact .inl rfl
    · right
      intro he
      rcases hr.2 with ⟨rfl, _⟩ | ⟨g', cap', cur', rfl, _, hgg', _⟩
      · cases he
      · simp only [Value.ownBlock, Option.some.injEq] at he
        subst he
        rw [hgg] at hgg'
        simp [tS, tH] at hgg'
  refine ⟨V ++ [(e, vi)], by simp [hV], ?_, fun p hp => ?_⟩
  · rw [List.flatMap_append, List.length_append]
    exact h'
  · rcases List.mem_append.1 hp with hp | hp
    · exact key _ _ (hi p hp)
    · obtain rfl : p = (e, vi) := by simpa using hp
      exact key _ _ hvi
theorem infoHk : (Tryd.prog.info? 31).map (fun i => (i.zero, i.size, i.bytes)) = some (some (.agg #[.int .i64 0, .int .i64 0, .int .i64 0, .int .i64 0, .slice none 0 0]), 5, 56) := by kernel_rfl
theorem wp_pushH {o : Oper} {a : Act} {K : Act → World → Prop} {Q : Exit → Act → World → Prop} {W : World} (s x : Operand)
    (ho : o.op = .call { callee := .builtin .append, args := #[s, x], argTypes := #[23, 23] })
    (B : Nat) (w0 : World) (v vi : Value) (L : List Hk) (e : Hk) (cs : Array Value) (hs : a.eval s = v) (hx : a.eval x = .slice (some ⟨W.heap.size, 0, none⟩) 1 1) (hc : cs = (hkC e vi).toArray)
    (hown : OwH W B v L) (hvi : OwT W B tS vi e.lines) (hlen : L.length + 1 ≤ 1000000000) (hb : Below B w0 W) (hbase : B ≤ W.heap.size)
    (h : ∀ v' w', OwH w' B v' (L ++ [e]) → Below B w0 w' → W.grownBy w' v.ownBlock → K (a.put o.dst v') w') : o.wp Tryd.prog a (W.alloc (.cells cs tH)) K Q := by
  obtain ⟨i0, hi0, hz0, hz1, hz2⟩ := info_parts infoHk
  subst hc
  obtain ⟨V, hV, hr, hi⟩ := hown
  refine wp_append_own _ s x 23 ho B tH i0 (.agg #[.int .i64 0, .int .i64 0, .int .i64 0, .int .i64 0, .slice none 0 0]) 5 56 Tryd.underlying23 hi0 hz0 hz1 hz2 rfl (by omega) v L.length (V.flatMap hkP) hs (World.ownsRow.alloc hr _)
    ⟨W.heap.size, 0, none⟩ 1 1 (hkC e vi) hx rfl (fun j u hu => ?_) ?_ (by unfold maxLen; omega) (by omega) (by simp; omega) (fun v' w' h1 h2 _ => ?_)
  · rw [Addr.add_mid, (Row.fresh W tH (hkC e vi).toArray).cell]
    simpa using hu
  · intro u hu
    simp only [hkC, List.mem_cons, List.not_mem_nil, or_false] at hu
    rcases hu with rfl | rfl | rfl | rfl | rfl
    · rfl
    · rfl
    · rfl
    · rfl
    · exact OwT.one hvi
  · have hg := grownBy_back _ h2
    exact h v' w' (OwH.append V hV hr hi hvi h1 hg) (hb.grown hg hbase fun k hk => (World.ownsRow.lt hr k hk).1) hg
theorem wpList_pushH {ops : Array Oper} {rest : List Oper} {o : Oper} {a : Act} {Q : Exit → Act → World → Prop} {W : World} (hgd : o.guard = none) (s x : Operand)
    (ho : o.op = .call { callee := .builtin .append, args := #[s, x], argTypes := #[23, 23] })
    (B : Nat) (w0 : World) (v vi : Value) (L : List Hk) (e : Hk) (cs : Array Value) (hs : a.eval s = v) (hx : a.eval x = .slice (some ⟨W.heap.size, 0, none⟩) 1 1) (hc : cs = (hkC e vi).toArray)
    (hown : OwH W B v L) (hvi : OwT W B tS vi e.lines) (hlen : L.length + 1 ≤ 1000000000) (hb : Below B w0 W) (hbase : B ≤ W.heap.size)
    (h : ∀ v' w', OwH w' B v' (L ++ [e]) → Below B w0 w' → W.grownBy w' v.ownBlock → wpList Tryd.prog ops Q rest (a.put o.dst v') w') : wpList Tryd.prog ops Q (o :: rest) a (W.alloc (.cells cs tH)) :=
  wpList_plain hgd fun _ hK => wp_pushH s x ho B w0 v vi L e cs hs hx hc hown hvi hlen hb hbase fun v' w' h1 h2 h3 => hK _ _ (h v' w' h1 h2 h3)
/-- the hunk number k, in a world behind -/
theorem Hks.at {w w' : World} {A : Option Addr} {c : Nat} {L : List Hk} (h : Hks w A c L) (hb : Below w.heap.size w w') {k : Nat} (hk : k < L.length) :
    ∃ b o e A' c', A = some ⟨b, o, none⟩ ∧ L[k]? = some e ∧ (w'.cell? ⟨b, o + k * 5, none⟩ = some (.int .i64 e.a) ∧ w'.cell? ⟨b, o + k * 5 + 1, none⟩ = some (.int .i64 e.an) ∧ w'.cell? ⟨b, o + k * 5 + 2, none⟩ = some (.int .i64 e.b) ∧ w'.cell? ⟨b, o + k * 5 + 3, none⟩ = some (.int .i64 e.bn) ∧
      w'.cell? ⟨b, o + k * 5 + 4, none⟩ = some (.slice A' e.lines.length c')) ∧ Vs w (fun b => b < w.heap.size) A' c' (texts e.lines) := by
  obtain ⟨b, o, rfl, hlt, he⟩ := h.2 (by omega)
  obtain ⟨A', c', h1, h2⟩ := he k _ (List.getElem?_eq_getElem hk)
  rw [Nat.mul_comm] at h1
  have h3 : ∀ i v, (hkC L[k] (.slice A' (L[k]).lines.length c'))[i]? = some v → w'.cell? ⟨b, o + k * 5 + i, none⟩ = some v := fun i v hi => (World.cell?_of_block (a := ⟨b, o + k * 5 + i, none⟩) (hb.block b hlt)).trans (h1 i v hi)
  exact ⟨b, o, _, A', c', rfl, List.getElem?_eq_getElem hk, ⟨h3 0 _ rfl, h3 1 _ rfl, h3 2 _ rfl, h3 3 _ rfl, h3 4 _ rfl⟩, h2⟩
end Go.Proofs.YtnehgogajghefaaDoor.Hu
namespace Go.Proofs.YtnehgogajghefaaDoor.Hu
open Go Go.RowKit Kt Lw Li Df

set_option maxHeartbeats 1000000 in
set_option maxRecDepth 100000 in
theorem one_same (h : Hk) (A A' : Option Addr) (c c' : Nat) (P P' : Nat → Prop) (w : World) (hs : Vs w P A c (texts h.lines)) (hs' : Vs w P' A' c' (texts h.lines)) (hn : h.lines.length ≤ 100000) :
    Calls Tryd.prog 17 #[.agg #[.int .i64 h.a, .int .i64 h.an, .int .i64 h.b, .int .i64 h.bn, .slice A h.lines.length c], .agg #[.int .i64 h.a, .int .i64 h.an, .int .i64 h.b, .int .i64 h.bn, .slice A' h.lines.length c']] w fun y w' => y = .returned (.bool true) ∧ Below w.heap.size w w' := by
  obtain ⟨a, an, b, bn, l⟩ := h
  simp only at hs hs' hn ⊢
  have Ht := hide (fun w1 (hb : Below w.heap.size w w1) => texts_any l l A A' c c' _ _ w1 (Lw.Vs.below hs.bound hb) (Lw.Vs.below hs'.bound hb) (by omega))
  have hdt : decide (l = l) = true := decide_eq_true rfl
  rw [hdt] at Ht
  obtain ⟨N, hN⟩ : ∃ N, N = l.length := ⟨_, rfl⟩
  rw [← hN] at Ht ⊢
  clear hs hs' hn hN hdt
  go_enter Tryd.func17, Tryd.ntmps17
  go_wp2_with fail
  refine (Ht.out _ (((Below.refl _ w).alloc (Nat.le_refl _) _).alloc (by simp) _)).mono ?_
  rintro y w1 ⟨rfl, hb1⟩
  have hb2 := (((Below.refl w.heap.size w).alloc (Nat.le_refl _) _).alloc (by simp) _).trans (hb1.mono (by simp; omega))
  clear hb1
  go_wp2
  go_ret
  exact ⟨rfl, hb2⟩
def tooBig (h : Hk) : Prop := 30 < (h.lines.length : Int) ∨ 1048576 < h.a ∨ 1048576 < h.b ∨ 1048576 < h.an ∨ 1048576 < h.bn ∨ h.a < -1048576 ∨ h.b < -1048576 ∨ h.an < -1048576 ∨ h.bn < -1048576
instance (h : Hk) : Decidable (tooBig h) := by unfold tooBig; infer_instance
end Go.Proofs.YtnehgogajghefaaDoor.Hu
namespace Go.Proofs.YtnehgogajghefaaDoor.Hu
open Go Go.RowKit Kt Lw Li Df

set_option maxHeartbeats 1000000 in
set_option maxRecDepth 100000 in
theorem hsame_any (L : List Hk) (A A' : Option Addr) (c c' : Nat) (w : World) (hs : Hks w A c L) (hs' : Hks w A' c' L) (hl : L.length ≤ 1000000) (hi : ∀ h ∈ L, h.lines.length ≤ 100000) :
    Calls Tryd.prog 7 #[.slice A L.length c, .slice A' L.length c'] w fun y w' => y = .returned (.bool true) ∧ Below w.heap.size w w' := by
  have Hs := hide hs
  have Hs' := hide hs'
  have Hi := hide hi
  obtain ⟨N, hN⟩ : ∃ N, N = L.length := ⟨_, rfl⟩
  rw [← hN] at hl ⊢
  have HN := hide hN
  clear hs hs' hN hi
  go_enter Tryd.func7, Tryd.ntmps7
  go_wp2
  go_loopw [5] (fun i wr => ∃ k : Nat, k ≤ N ∧ i = .int .i64 k ∧ Below w.heap.size w wr) (fun i _ => N - (intOf i).toNat)
  case atStart => exact ⟨0, Nat.zero_le _, rfl, Below.refl _ _⟩
  case round =>
    obtain ⟨k, hk, rfl, hb⟩ := hrel
    have Hb := hide hb
    clear hb
    by_cases hlt : k < N
    · obtain ⟨b, o, h, A1, c1, rfl, hke, ⟨c0, c1', c2', c3, c4⟩, hv⟩ := Hs.out.at Hb.out (k := k) (by have := HN.out; omega)
      obtain ⟨b', o', h', A2, c2, rfl, hke', ⟨d0, d1, d2, d3, d4⟩, hv'⟩ := Hs'.out.at Hb.out (k := k) (by have := HN.out; omega)
      rw [hke] at hke'
      injection hke' with he
      subst he
      have hin := Hi.out h (List.mem_of_getElem? hke)
      have HO := hide (fun w1 (h1 : Below w.heap.size w w1) => one_same h A1 A2 c1 c2 _ _ w1 (Lw.Vs.below hv h1) (Lw.Vs.below hv' h1) hin)
      obtain ⟨za, hza⟩ : ∃ z, z = h.a := ⟨_, rfl⟩
      obtain ⟨zan, hzan⟩ : ∃ z, z = h.an := ⟨_, rfl⟩
      obtain ⟨zb, hzb⟩ : ∃ z, z = h.b := ⟨_, rfl⟩
      obtain ⟨zbn, hzbn⟩ : ∃ z, z = h.bn := ⟨_, rfl⟩
      obtain ⟨nh, hnh⟩ : ∃ z, z = h.lines.length := ⟨_, rfl⟩
      rw [← hza, ← hzan, ← hzb, ← hzbn, ← hnh] at HO
      rw [← hza] at c0 d0
      rw [← hzan] at c1' d1
      rw [← hzb] at c2' d2
      rw [← hzbn] at c3 d3
      rw [← hnh] at c4 d4
      clear hke hv hv' hza hzan hzb hzbn hnh hin
      go_wp2
      refine Rg.wp_region_ord (fun w' => w'.cell? ⟨b, o + k * 5, none⟩ = some (.int .i64 za) ∧ w'.cell? ⟨b, o + k * 5 + 1, none⟩ = some (.int .i64 zan) ∧ w'.cell? ⟨b, o + k * 5 + 2, none⟩ = some (.int .i64 zb) ∧ w'.cell? ⟨b, o + k * 5 + 3, none⟩ = some (.int .i64 zbn) ∧ w'.cell? ⟨b, o + k * 5 + 4, none⟩ = some (.slice A1 nh c1) ∧ w'.cell? ⟨b', o' + k * 5, none⟩ = some (.int .i64 za) ∧ w'.cell? ⟨b', o' + k * 5 + 1, none⟩ = some (.int .i64 zan) ∧ w'.cell? ⟨b', o' + k * 5 + 2, none⟩ = some (.int .i64 zb) ∧ w'.cell? ⟨b', o' + k * 5 + 3, none⟩ = some (.int .i64 zbn) ∧ w'.cell? ⟨b', o' + k * 5 + 4, none⟩ = some (.slice A2 nh c2)) [(0, true), (1, true), (2, true), (3, true), (4, true), (5, true), (6, true), (7, true), (8, false), (9, true)] (by kernel_rfl) (by kernel_rfl) ?_
      simp only [Rg.pick, List.map_cons, List.map_nil, List.getD_cons_zero, List.getD_cons_succ]
      iterate 8 (refine Rg.ord_quiet (v := ?_) rfl (fun w' hS => ?_) ⟨c0, c1', c2', c3, c4, d0, d1, d2, d3, d4⟩ ?_; rotate_left; (obtain ⟨s0, s1, s2, s3, s4, s5, s6, s7, s8, s9⟩ := hS; go_simp; with_reducible rfl); simp only [Act.put, List.setIfInBounds_toArray, List.set_cons_succ, List.set_cons_zero])
      refine Rg.ord_loud rfl (fun K hK => ?_)
      go_simp
      refine (HO.out wr.drew Hb.out.drew).mono ?_
      rintro y w2 ⟨rfl, hb2⟩
      have Hbe := hide (Hb.out.drew.trans (hb2.mono Hb.out.size))
      have p0 := cell_keep hb2 (w := wr.drew) c0
      have p1 := cell_keep hb2 (w := wr.drew) c1'
      have p2 := cell_keep hb2 (w := wr.drew) c2'
      have p3 := cell_keep hb2 (w := wr.drew) c3
      have p4 := cell_keep hb2 (w := wr.drew) c4
      have q0 := cell_keep hb2 (w := wr.drew) d0
      have q1 := cell_keep hb2 (w := wr.drew) d1
      have q2 := cell_keep hb2 (w := wr.drew) d2
      have q3 := cell_keep hb2 (w := wr.drew) d3
      have q4 := cell_keep hb2 (w := wr.drew) d4
      clear c0 c1' c2' c3 c4 d0 d1 d2 d3 d4 hb2
      refine hK _ _ (fun _ => ⟨p0, p1, p2, p3, p4, q0, q1, q2, q3, q4⟩) ?_
      clear hK K
      try simp only [Act.put, List.setIfInBounds_toArray, List.set_cons_succ, List.set_cons_zero]
      iterate 1 (refine Rg.ord_quiet (v := ?_) rfl (fun w' hS => ?_) ⟨p0, p1, p2, p3, p4, q0, q1, q2, q3, q4⟩ ?_; rotate_left; (obtain ⟨s0, s1, s2, s3, s4, s5, s6, s7, s8, s9⟩ := hS; go_simp; with_reducible rfl); simp only [Act.put, List.setIfInBounds_toArray, List.set_cons_succ, List.set_cons_zero])
      refine Rg.ord_nil ?_
      clear p0 p1 p2 p3 p4 q0 q1 q2 q3 q4
      go_wp2
      exact ⟨⟨k + 1, by omega, by go_num, Hbe.out⟩, by simp [intOf]; omega⟩
    · obtain rfl : k = N := by omega
      go_wp2
      go_ret
      exact ⟨rfl, Hb.out⟩
end Go.Proofs.YtnehgogajghefaaDoor.Hu
