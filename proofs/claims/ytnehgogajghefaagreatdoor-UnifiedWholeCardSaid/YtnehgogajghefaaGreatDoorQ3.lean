/-
  Rows of edits: such that came in, and such that the call itself owns.
-/
import Derived.Test.YtnehgogajghefaaGreatDoorQ2
import Derived.Test.YtnehgogajghefaaGreatDoorQ1
namespace Go.Proofs.YtnehgogajghefaaGreatDoor.Df
open Go Go.RowKit Kt Lw

abbrev tS : TypeId := 9
abbrev tE : TypeId := 72
/-- an edit's cells -/
def edC (e : Ed) (vi : Value) : List Value := [.int .i64 e.pos, .int .i64 e.del, vi]
theorem flat_at {α : Type} (f : α → List Value) (n : Nat) (hf : ∀ a, (f a).length = n) : ∀ (l : List α) (j k : Nat) (a : α), l[j]? = some a → k < n → (l.flatMap f)[n * j + k]? = (f a)[k]?
  | [], j, k, a, h, _ => by simp at h
  | b :: l, 0, k, a, h, hk => by
    simp at h
    subst h
    rw [List.flatMap_cons, Nat.mul_zero, Nat.zero_add, List.getElem?_append_left (by rw [hf]; exact hk)]
  | b :: l, j + 1, k, a, h, hk => by
    rw [List.flatMap_cons, List.getElem?_append_right (by rw [hf, Nat.mul_succ]; omega), hf]
    rw [show n * (j + 1) + k - n = n * j + k from by rw [Nat.mul_succ]; omega]
    exact flat_at f n hf l j k a (by simpa using h) hk
theorem flat_len {α : Type} (f : α → List Value) (n : Nat) (hf : ∀ a, (f a).length = n) (l : List α) : (l.flatMap f).length = l.length * n := by
  induction l with
  | nil => simp
  | cons a l ih => rw [List.flatMap_cons, List.length_append, hf, ih, List.length_cons, Nat.succ_mul]; omega
def pairC (p : Ed × Value) : List Value := edC p.1 p.2
theorem pairC_len (p : Ed × Value) : (pairC p).length = 3 := rfl
/-- edits in a row of the call's own, with lines in rows of its own -/
def OwE (w : World) (B : Nat) (v : Value) (L : List Ed) : Prop :=
  ∃ V : List (Ed × Value), V.map (·.1) = L ∧ w.ownsRow B tE 3 v L.length (V.flatMap pairC) ∧ ∀ p ∈ V, OwT w B tS p.2 p.1.ins
/-- '.slice A n c' reads as these edits -/
def Es (w : World) (A : Option Addr) (c : Nat) (L : List Ed) : Prop :=
  L.length ≤ c ∧ (0 < L.length → ∃ b o, A = some ⟨b, o, none⟩ ∧ b < w.heap.size ∧ ∀ j e, L[j]? = some e →
    ∃ A' c', w.rangeAt b (o + 3 * j) (edC e (.slice A' e.ins.length c')) ∧ Vs w (fun b => b < w.heap.size) A' c' (texts e.ins))
theorem vs_keep {w w' : World} {A : Option Addr} {c : Nat} {vs : List Value} (h : Vs w (fun b => b < w.heap.size) A c vs) (hb : Below w.heap.size w w') : Vs w' (fun b => b < w'.heap.size) A c vs :=
  Lw.Vs.bound (Lw.Vs.below h hb)
theorem Es.keep {w w' : World} {A : Option Addr} {c : Nat} {L : List Ed} (h : Es w A c L) (hb : Below w.heap.size w w') : Es w' A c L :=
  ⟨h.1, fun hn => by
    obtain ⟨b, o, rfl, hlt, he⟩ := h.2 hn
    refine ⟨b, o, rfl, Nat.lt_of_lt_of_le hlt hb.size, fun j e hj => ?_⟩
    obtain ⟨A', c', hr, hv⟩ := he j e hj
    exact ⟨A', c', fun i v hi => (World.cell?_of_block (a := ⟨b, o + 3 * j + i, none⟩) (hb.block b hlt)).trans (hr i v hi), vs_keep hv hb⟩⟩
theorem Es.nil (w : World) (A : Option Addr) (c : Nat) : Es w A c [] := ⟨Nat.zero_le _, fun h => by simp at h⟩
theorem OwE.nil (w : World) (B : Nat) : OwE w B (.slice none 0 0) [] := ⟨[], rfl, World.ownsRow_nil _ _ _ _, fun p h => by cases h⟩
theorem OwE.es {w : World} {B : Nat} {v : Value} {L : List Ed} (h : OwE w B v L) : ∃ A c, v = .slice A L.length c ∧ Es w A c L := by
  obtain ⟨V, rfl, hr, hi⟩ := h
  rcases hr.2 with ⟨rfl, h0⟩ | ⟨g, cap, cur, rfl, hB, hg, hnc, hcm, hs, ht⟩
  · have e : V.map (·.1) = [] := List.eq_nil_of_length_eq_zero h0
    rw [e]
    exact ⟨none, 0, rfl, Es.nil _ _ _⟩
  · refine ⟨_, cap, rfl, hnc, fun _ => ⟨g, 0, rfl, (Array.getElem?_eq_some_iff.1 hg).1, fun j e hj => ?_⟩⟩
    rw [List.getElem?_map] at hj
    cases hp : V[j]? with
    | none => rw [hp] at hj; cases hj
    | some p =>
      rw [hp] at hj
      simp at hj
      subst hj
      have hjl : j < V.length := (List.getElem?_eq_some_iff.1 hp).1
      obtain ⟨A', c', hv, hvs⟩ := (hi p (List.mem_of_getElem? hp)).vs
      refine ⟨A', c', fun k u hk => ?_, Lw.Vs.bound hvs⟩
      have hk3 : k < 3 := (List.getElem?_eq_some_iff.1 hk).1
      have := World.ownsRow.cellAt (cap := cap) hr (3 * j + k) (by rw [List.length_map]; omega)
      rw [Nat.zero_add, this, flat_at pairC 3 pairC_len V j k p hp hk3]
      unfold pairC
      rw [hv]
      exact hk
theorem OwE.move {w w' : World} {B B' : Nat} {v : Value} {L : List Ed} (h : OwE w B v L) (hb : Below B' w w') (hv : w.heap.size ≤ B') : OwE w' B v L := by
  obtain ⟨V, hV, hr, hi⟩ := h
  refine ⟨V, hV, ⟨hr.1, ?_⟩, fun p hp => (hi p hp).below hb fun g hg => Nat.lt_of_lt_of_le (World.ownsRow.lt (hi p hp) g hg).2 hv⟩
  rcases hr.2 with ⟨h1, h2⟩ | ⟨g, cap, cur, hv', h1, h2, h3⟩
  · exact .inl ⟨h1, h2⟩
  · exact .inr ⟨g, cap, cur, hv', h1, (hb.block g (Nat.lt_of_lt_of_le (Array.getElem?_eq_some_iff.1 h2).1 hv)).trans h2, h3⟩
theorem OwE.keep {w w' : World} {B : Nat} {v : Value} {L : List Ed} (h : OwE w B v L) (hb : Below w.heap.size w w') : OwE w' B v L := h.move hb (Nat.le_refl _)
theorem OwE.base {w : World} {B B' : Nat} {v : Value} {L : List Ed} (h : OwE w B v L) (hb : B' ≤ B) : OwE w B' v L := by
  obtain ⟨V, hV, hr, hi⟩ := h
  have key : ∀ {e : TypeId} {size : Nat} {v : Value} {n : Nat} {xs : List Value}, w.ownsRow B e size v n xs → w.ownsRow B' e size v n xs := fun h =>
    ⟨h.1, h.2.imp id fun ⟨g, cap, cur, hv', h1, h2⟩ => ⟨g, cap, cur, hv', Nat.le_trans hb h1, h2⟩⟩
  exact ⟨V, hV, key hr, fun p hp => key (hi p hp)⟩
theorem OwE.put_box {w : World} {B : Nat} {v : Value} {L : List Ed} (h : OwE w B v L) (o : Obj) : OwE (w.alloc o) B v L := h.keep ((Below.refl _ w).alloc (Nat.le_refl _) o)
theorem OwE.drewN {w : World} {B : Nat} {v : Value} {L : List Ed} (h : OwE w B v L) (n : Nat) : OwE (w.drewN n) B v L := h
theorem OwE.drew {w : World} {B : Nat} {v : Value} {L : List Ed} (h : OwE w B v L) : OwE w.drew B v L := h
/-- append of one edit -/
theorem OwE.append {w w' : World} {B : Nat} {v v' : Value} {L : List Ed} {e : Ed} {vi : Value} (V : List (Ed × Value)) (hV : V.map (·.1) = L) (hr : w.ownsRow B tE 3 v L.length (V.flatMap pairC))
    (hi : ∀ p ∈ V, OwT w B tS p.2 p.1.ins) (hvi : OwT w B tS vi e.ins) (h' : w'.ownsRow B tE 3 v' (L.length + 1) (V.flatMap pairC ++ edC e vi)) (hg : w.grownBy w' v.ownBlock) : OwE w' B v' (L ++ [e]) := by
  have key : ∀ (u : Value) (l : Ls), OwT w B tS u l → OwT w' B tS u l := by
    intro u l hu
    refine World.ownsRow.kept hu hg ?_
    rcases hu.2 with ⟨rfl, _⟩ | ⟨g, cap, cur, rfl, _, hgg, _⟩
    · exact .inl rfl
    · right
      intro he
      rcases hr.2 with ⟨rfl, _⟩ | ⟨g', cap', cur', rfl, _, hgg', _⟩
      · cases he
      · simp only [Value.ownBlock, Option.some.injEq] at he
        subst he
        rw [hgg] at hgg'
        simp [tS, tE] at hgg'
  refine ⟨V ++ [(e, vi)], by simp [hV], ?_, fun p hp => ?_⟩
  · rw [List.flatMap_append, List.length_append]
    exact h'
  · rcases List.mem_append.1 hp with hp | hp
    · exact key _ _ (hi p hp)
    · obtain rfl : p = (e, vi) := by simpa using hp
      exact key _ _ hvi
end Go.Proofs.YtnehgogajghefaaGreatDoor.Df
namespace Go.Proofs.YtnehgogajghefaaGreatDoor.Df
open Go Go.RowKit Kt Lw

theorem size_pos : ∀ L : List Ed, 0 ≤ size L
  | [] => Int.le_refl _
  | e :: l => by rw [size]; have := size_pos l; omega
theorem size_take (L : List Ed) (k : Nat) : size (L.take k) ≤ size L := by
  have h := size_append (L.take k) (L.drop k)
  rw [List.take_append_drop] at h
  have := size_pos (L.drop k)
  omega
theorem size_snoc (L : List Ed) (k : Nat) (e : Ed) (h : L[k]? = some e) : size (L.take (k + 1)) = size (L.take k) + (max 0 e.del + e.ins.length) := by
  rw [List.take_add_one, h, size_append]
  simp [size]
/-- the edit number k, in a world behind -/
theorem Es.at {w w' : World} {A : Option Addr} {c : Nat} {L : List Ed} (h : Es w A c L) (hb : Below w.heap.size w w') {k : Nat} (hk : k < L.length) :
    ∃ b o e A' c', A = some ⟨b, o, none⟩ ∧ L[k]? = some e ∧ (w'.cell? ⟨b, o + k * 3, none⟩ = some (.int .i64 e.pos) ∧ w'.cell? ⟨b, o + k * 3 + 1, none⟩ = some (.int .i64 e.del) ∧ w'.cell? ⟨b, o + k * 3 + 2, none⟩ = some (.slice A' e.ins.length c')) ∧ Vs w (fun b => b < w.heap.size) A' c' (texts e.ins) := by
  obtain ⟨b, o, rfl, hlt, he⟩ := h.2 (by omega)
  obtain ⟨A', c', h1, h2⟩ := he k _ (List.getElem?_eq_getElem hk)
  rw [Nat.mul_comm] at h1
  have h3 : ∀ i v, (edC L[k] (.slice A' (L[k]).ins.length c'))[i]? = some v → w'.cell? ⟨b, o + k * 3 + i, none⟩ = some v := fun i v hi => (World.cell?_of_block (a := ⟨b, o + k * 3 + i, none⟩) (hb.block b hlt)).trans (h1 i v hi)
  exact ⟨b, o, _, A', c', rfl, List.getElem?_eq_getElem hk, ⟨h3 0 _ rfl, h3 1 _ rfl, h3 2 _ rfl⟩, h2⟩
theorem box_kept {w w2 : World} {B : Nat} {v : Value} {l : Ls} {cs : Array Value} {t : TypeId} (hown : OwT w B tS v l) (hg : (w.alloc (.cells cs t)).grownBy w2 v.ownBlock) : Row w2 w.heap.size t cs.toList :=
  (Row.fresh w t cs).grown hg (fun h => by have := (World.ownsRow.lt hown _ h.symm).2; omega)

set_option maxHeartbeats 1000000 in
set_option maxRecDepth 100000 in
theorem right_any (n : Int) (L : List Ed) (A : Option Addr) (c : Nat) (w : World) (hs : Es w A c L) (hl : L.length ≤ 1000000) (hn : n ≤ 1099511627776) (hn0 : -1099511627776 ≤ n) :
    Calls Tryz.prog 19 #[.int .i64 n, .slice A L.length c] w fun y w' => y = .returned (.bool (right n (-1) L)) ∧ Below w.heap.size w w' := by
  have Hs := hide hs
  obtain ⟨N, hN⟩ : ∃ N, N = L.length := ⟨_, rfl⟩
  rw [← hN] at hl ⊢
  have HN := hide hN
  clear hs hN
  go_enter Tryz.func19, Tryz.ntmps19
  go_wp2
  go_loopw [5, 10] (fun s i wr => ∃ (k : Nat) (q : Int), k ≤ N ∧ i = .int .i64 k ∧ s = .int .i64 q ∧ (-1 ≤ q ∧ (k ≠ 0 → q ≤ n)) ∧ right n (-1) L = right n q (L.drop k) ∧ Below w.heap.size w wr) (fun _ i _ => N - (intOf i).toNat)
  case atStart => exact ⟨0, -1, Nat.zero_le _, rfl, rfl, ⟨Int.le_refl _, fun h => absurd rfl h⟩, rfl, Below.refl _ _⟩
  case round =>
    obtain ⟨k, q, hk, rfl, rfl, ⟨hq1, hq2⟩, he, hb⟩ := hrel
    have Hb := hide hb
    have He := hide he
    clear hb he
    by_cases hlt : k < N
    · obtain ⟨b, o, e, A', c', rfl, hke, ⟨c0, c1, c2⟩, hv⟩ := Hs.out.at Hb.out (k := k) (by have := HN.out; omega)
      have hdk : L.drop k = e :: L.drop (k + 1) := by
        have h1 : k < L.length := by have := HN.out; omega
        rw [List.drop_eq_getElem_cons h1]
        rw [List.getElem?_eq_getElem h1] at hke
        injection hke with hke
        rw [hke]
      have Hr := hide (show right n (-1) L = ((decide (0 ≤ e.del) && decide (e.del ≠ 0 ∨ e.ins ≠ []) && decide (q < e.pos) && decide (e.pos ≤ n) && decide (e.del ≤ n - e.pos)) && right n (e.pos + e.del) (L.drop (k + 1))) by
        rw [He.out, hdk, right])
      clear hdk hke hv He
      by_cases h1 : e.del < 0
      · have d1 : decide (e.del < 0) = true := decide_eq_true h1
        have Hf := hide (show right n (-1) L = false by rw [Hr.out, decide_eq_false (show ¬ 0 ≤ e.del by omega)]; simp)
        clear Hr
        go_wp2
        go_ret
        exact ⟨by rw [Hf.out]; rfl, Hb.out.alloc Hb.out.size _⟩
      have d1 : decide (e.del < 0) = false := decide_eq_false h1
      by_cases h2 : e.del = 0 ∧ e.ins = []
      · obtain ⟨h21, h22⟩ := h2
        have d2 : ((e.del : Int) == 0) = true := by rw [h21]; rfl
        have d6 : ((e.ins.length : Int) == 0) = true := by rw [h22]; rfl
        have Hr2 := hide (show right n (-1) L = false by rw [Hr.out, decide_eq_false (show ¬ (e.del ≠ 0 ∨ e.ins ≠ []) by rw [h21, h22]; simp)]; simp)
        clear h21 h22 Hr
        go_wp2
        go_ret
        exact ⟨by rw [Hr2.out]; rfl, Hb.out.alloc Hb.out.size _⟩
      have H2 := hide (show e.del ≠ 0 ∨ e.ins ≠ [] by
        by_cases hd : e.del = 0
        · exact .inr fun h => h2 ⟨hd, h⟩
        · exact .inl hd)
      have H1 := hide (show 0 ≤ e.del by omega)
      have hcase : (((e.del : Int) == 0) = false) ∨ (((e.del : Int) == 0) = true ∧ ((e.ins.length : Int) == 0) = false) := by
        by_cases hd : e.del = 0
        · refine .inr ⟨by rw [hd]; rfl, ?_⟩
          rw [beq_eq_false_iff_ne]
          have := List.length_pos_iff.2 fun h => h2 ⟨hd, h⟩
          omega
        · exact .inl (by rw [beq_eq_false_iff_ne]; exact hd)
      clear h2
      rcases hcase with d2 | ⟨d2, d6⟩
      · by_cases h3 : e.pos ≤ q
        · have d3 : decide (e.pos ≤ q) = true := decide_eq_true h3
          have Hf := hide (show right n (-1) L = false by rw [Hr.out, decide_eq_false (show ¬ q < e.pos by omega)]; simp)
          clear Hr
          go_wp2
          go_ret
          exact ⟨by rw [Hf.out]; rfl, Hb.out.alloc Hb.out.size _⟩
        have d3 : decide (e.pos ≤ q) = false := decide_eq_false h3
        by_cases h4 : n < e.pos
        · have d4 : decide (n < e.pos) = true := decide_eq_true h4
          have Hf := hide (show right n (-1) L = false by rw [Hr.out, decide_eq_false (show ¬ e.pos ≤ n by omega)]; simp)
          clear Hr
          go_wp2
          go_ret
          exact ⟨by rw [Hf.out]; rfl, Hb.out.alloc Hb.out.size _⟩
        have d4 : decide (n < e.pos) = false := decide_eq_false h4
        have hp0 : 0 ≤ e.pos := by omega
        by_cases h5 : n - e.pos < e.del
        · have d5 : decide (n - e.pos < e.del) = true := decide_eq_true h5
          have Hf := hide (show right n (-1) L = false by rw [Hr.out, decide_eq_false (show ¬ e.del ≤ n - e.pos by omega)]; simp)
          clear Hr
          go_wp2
          go_ret
          exact ⟨by rw [Hf.out]; rfl, Hb.out.alloc Hb.out.size _⟩
        have d5 : decide (n - e.pos < e.del) = false := decide_eq_false h5
        have Hr2 := hide (show right n (-1) L = right n (e.pos + e.del) (L.drop (k + 1)) by
          rw [Hr.out, decide_eq_true H1.out, decide_eq_true H2.out, decide_eq_true (show q < e.pos by omega), decide_eq_true (show e.pos ≤ n by omega), decide_eq_true (show e.del ≤ n - e.pos by omega)]; rfl)
        have hpd : e.pos + e.del ≤ n := by omega
        have hd0 := H1.out
        clear Hr h1 h3 h4 h5
        go_wp2
        exact ⟨⟨k + 1, e.pos + e.del, by omega, by go_num, rfl, ⟨by omega, fun _ => hpd⟩, Hr2.out, Hb.out.alloc Hb.out.size _⟩, by simp [intOf]; omega⟩
      · by_cases h3 : e.pos ≤ q
        · have d3 : decide (e.pos ≤ q) = true := decide_eq_true h3
          have Hf := hide (show right n (-1) L = false by rw [Hr.out, decide_eq_false (show ¬ q < e.pos by omega)]; simp)
          clear Hr
          go_wp2
          go_ret
          exact ⟨by rw [Hf.out]; rfl, Hb.out.alloc Hb.out.size _⟩
        have d3 : decide (e.pos ≤ q) = false := decide_eq_false h3
        by_cases h4 : n < e.pos
        · have d4 : decide (n < e.pos) = true := decide_eq_true h4
          have Hf := hide (show right n (-1) L = false by rw [Hr.out, decide_eq_false (show ¬ e.pos ≤ n by omega)]; simp)
          clear Hr
          go_wp2
          go_ret
          exact ⟨by rw [Hf.out]; rfl, Hb.out.alloc Hb.out.size _⟩
        have d4 : decide (n < e.pos) = false := decide_eq_false h4
        have hp0 : 0 ≤ e.pos := by omega
        by_cases h5 : n - e.pos < e.del
        · have d5 : decide (n - e.pos < e.del) = true := decide_eq_true h5
          have Hf := hide (show right n (-1) L = false by rw [Hr.out, decide_eq_false (show ¬ e.del ≤ n - e.pos by omega)]; simp)
          clear Hr
          go_wp2
          go_ret
          exact ⟨by rw [Hf.out]; rfl, Hb.out.alloc Hb.out.size _⟩
        have d5 : decide (n - e.pos < e.del) = false := decide_eq_false h5
        have Hr2 := hide (show right n (-1) L = right n (e.pos + e.del) (L.drop (k + 1)) by
          rw [Hr.out, decide_eq_true H1.out, decide_eq_true H2.out, decide_eq_true (show q < e.pos by omega), decide_eq_true (show e.pos ≤ n by omega), decide_eq_true (show e.del ≤ n - e.pos by omega)]; rfl)
        have hpd : e.pos + e.del ≤ n := by omega
        have hd0 := H1.out
        clear Hr h1 h3 h4 h5
        go_wp2
        exact ⟨⟨k + 1, e.pos + e.del, by omega, by go_num, rfl, ⟨by omega, fun _ => hpd⟩, Hr2.out, Hb.out.alloc Hb.out.size _⟩, by simp [intOf]; omega⟩
    · obtain rfl : k = N := by omega
      have Hr := hide (show right n (-1) L = true by rw [He.out, HN.out, List.drop_length]; rfl)
      go_wp2
      go_ret
      exact ⟨by rw [Hr.out]; rfl, Hb.out⟩
end Go.Proofs.YtnehgogajghefaaGreatDoor.Df
namespace Go.Proofs.YtnehgogajghefaaGreatDoor.Df
open Go Go.RowKit Kt Lw

theorem infoText : (Tryz.prog.info? 9).map (fun i => (i.zero, i.size, i.bytes)) = some (some (.string ⟨#[]⟩), 1, 16) := by kernel_rfl
theorem infoEd : (Tryz.prog.info? 72).map (fun i => (i.zero, i.size, i.bytes)) = some (some (.agg #[.int .i64 0, .int .i64 0, .slice none 0 0]), 3, 40) := by kernel_rfl
theorem OwT.one {w : World} {B : Nat} {v : Value} {l : Ls} (h : OwT w B tS v l) : v.oneCell' = true := by
  rcases h.2 with ⟨rfl, _⟩ | ⟨g, cap, cur, rfl, _⟩ <;> rfl
theorem grown_then {a b c : World} {r : Option Nat} (h : a.grownBy b none) (k : b.grownBy c r) : a.grownBy c r :=
  ⟨k.os.trans h.os, k.tape.trans h.tape, k.output.trans h.output, Nat.le_trans h.size k.size, fun i hi hne => (k.block i (Nat.lt_of_lt_of_le hi h.size) hne).trans (h.block i hi (by simp))⟩
/-- append(l, one edit) onto a row of edits of the call's own -/
theorem wp_pushE {o : Oper} {a : Act} {K : Act → World → Prop} {Q : Exit → Act → World → Prop} {W : World} (s x : Operand)
    (ho : o.op = .call { callee := .builtin .append, args := #[s, x], argTypes := #[25, 25] })
    (B : Nat) (w0 : World) (v vi : Value) (L : List Ed) (e : Ed) (cs : Array Value) (hs : a.eval s = v) (hx : a.eval x = .slice (some ⟨W.heap.size, 0, none⟩) 1 1) (hc : cs = (edC e vi).toArray)
    (hown : OwE W B v L) (hvi : OwT W B tS vi e.ins) (hlen : L.length + 1 ≤ 1000000000) (hb : Below B w0 W) (hbase : B ≤ W.heap.size)
    (h : ∀ v' w', OwE w' B v' (L ++ [e]) → Below B w0 w' → W.grownBy w' v.ownBlock → K (a.put o.dst v') w') : o.wp Tryz.prog a (W.alloc (.cells cs tE)) K Q := by
  obtain ⟨i0, hi0, hz0, hz1, hz2⟩ := info_parts infoEd
  subst hc
  obtain ⟨V, hV, hr, hi⟩ := hown
  refine wp_append_own _ s x 25 ho B tE i0 (.agg #[.int .i64 0, .int .i64 0, .slice none 0 0]) 3 40 Tryz.underlying25 hi0 hz0 hz1 hz2 rfl (by omega) v L.length (V.flatMap pairC) hs (World.ownsRow.alloc hr _)
    ⟨W.heap.size, 0, none⟩ 1 1 (edC e vi) hx rfl (fun j u hu => ?_) ?_ (by unfold maxLen; omega) (by omega) (by simp; omega) (fun v' w' h1 h2 _ => ?_)
  · rw [Addr.add_mid, (Row.fresh W tE (edC e vi).toArray).cell]
    simpa using hu
  · intro u hu
    simp only [edC, List.mem_cons, List.not_mem_nil, or_false] at hu
    rcases hu with rfl | rfl | rfl
    · rfl
    · rfl
    · exact OwT.one hvi
  · have hg := grownBy_back _ h2
    exact h v' w' (OwE.append V hV hr hi hvi h1 hg) (hb.grown hg hbase fun k hk => (World.ownsRow.lt hr k hk).1) hg
theorem wpList_pushE {ops : Array Oper} {rest : List Oper} {o : Oper} {a : Act} {Q : Exit → Act → World → Prop} {W : World} (hgd : o.guard = none) (s x : Operand)
    (ho : o.op = .call { callee := .builtin .append, args := #[s, x], argTypes := #[25, 25] })
    (B : Nat) (w0 : World) (v vi : Value) (L : List Ed) (e : Ed) (cs : Array Value) (hs : a.eval s = v) (hx : a.eval x = .slice (some ⟨W.heap.size, 0, none⟩) 1 1) (hc : cs = (edC e vi).toArray)
    (hown : OwE W B v L) (hvi : OwT W B tS vi e.ins) (hlen : L.length + 1 ≤ 1000000000) (hb : Below B w0 W) (hbase : B ≤ W.heap.size)
    (h : ∀ v' w', OwE w' B v' (L ++ [e]) → Below B w0 w' → W.grownBy w' v.ownBlock → wpList Tryz.prog ops Q rest (a.put o.dst v') w') : wpList Tryz.prog ops Q (o :: rest) a (W.alloc (.cells cs tE)) :=
  wpList_plain hgd fun _ hK => wp_pushE s x ho B w0 v vi L e cs hs hx hc hown hvi hlen hb hbase fun v' w' h1 h2 h3 => hK _ _ (h v' w' h1 h2 h3)

/-- an edit, if it has a line that goes, or comes -/
def emitI (pos del : Int) (ins : Ls) : List Ed := if del = 0 ∧ ins = [] then [] else [⟨pos, del, ins⟩]
theorem emitI_nat (pos del : Nat) (ins : Ls) : emitI pos del ins = emit pos del ins := by
  unfold emitI emit
  by_cases h : del = 0 ∧ ins = []
  · rw [if_pos h, if_pos ⟨by omega, h.2⟩]
  · rw [if_neg h, if_neg (fun k => h ⟨by omega, k.2⟩)]

set_option maxHeartbeats 1000000 in
set_option maxRecDepth 100000 in
theorem add_any (B : Nat) (v : Value) (L : List Ed) (pos del : Int) (ins : Ls) (A : Option Addr) (c : Nat) (P : Nat → Prop) (w : World) (hown : OwE w B v L) (hs : Vs w P A c (texts ins))
    (hB : B ≤ w.heap.size) (hl : L.length + 1 ≤ 1000000000) (hn : ins.length ≤ 1000000000) :
    Calls Tryz.prog 17 #[v, .int .i64 pos, .int .i64 del, .slice A ins.length c] w fun y w' => ∃ v', y = .returned v' ∧ OwE w' B v' (L ++ emitI pos del ins) ∧ Below B w w' ∧ w.grownBy w' v.ownBlock := by
  have hB0 : Below B w w := Below.refl _ _
  by_cases h : del = 0 ∧ ins = []
  · obtain ⟨rfl, rfl⟩ := h
    have Hown := hide hown
    clear hown
    go_enter Tryz.func17, Tryz.ntmps17
    go_wp2
    go_ret
    exact ⟨_, rfl, by rw [show emitI pos 0 [] = [] from rfl, List.append_nil]; exact Hown.out, hB0, World.grownBy.refl _ _⟩
  · have He := hide (show emitI pos del ins = [⟨pos, del, ins⟩] from if_neg h)
    have hcase : ((del == 0) = false) ∨ ((del == 0) = true ∧ ((ins.length : Int) == 0) = false) := by
      by_cases hd : del = 0
      · refine .inr ⟨by rw [hd]; rfl, ?_⟩
        rw [beq_eq_false_iff_ne]
        have := List.length_pos_iff.2 fun k => h ⟨hd, k⟩
        omega
      · exact .inl (by rw [beq_eq_false_iff_ne]; exact hd)
    have Hown := hide hown
    have Hs := hide hs
    have HB := hide hB
    have Hn := hide hn
    have Hl := hide hl
    clear h hown hs hB hl hn
    rcases hcase with d1 | ⟨d1, d2⟩
    · go_enter Tryz.func17, Tryz.ntmps17
      go_wp2_with (first | (refine wpList_catT rfl _ (.tmp 20) 23 rfl Tryz.underlying23 infoText B w (.slice none 0 0) [] ins P A c rfl rfl (OwT.nil _ _ _) Hs.out (by have := Hn.out; simp; omega) hB0 HB.out ?_; intro vi w1 hvi hb1 hg1; rw [List.nil_append] at hvi; have hown1 : OwE w1 B v L := Hown.out.move (B' := w.heap.size) ⟨hb1.os, hb1.tape, hb1.output, hg1.size, fun k hk => hg1.block k hk (by simp [Value.ownBlock])⟩ (Nat.le_refl _); obtain ⟨Ai, ci, rfl, _⟩ := OwT.vs hvi; have Hvi := hide hvi; have Hown1 := hide hown1; have Hb1 := hide hb1; have Hg1 := hide hg1; clear hvi hown1 hb1 hg1) | (refine wpList_pushE rfl (.tmp 17) (.tmp 23) rfl B w _ _ L ⟨pos, del, ins⟩ _ rfl rfl rfl Hown1.out Hvi.out Hl.out Hb1.out (Nat.le_trans HB.out Hb1.out.size) ?_; intro v' w2 hown2 hb2 hg2; have Hg2 := hide hg2; have Hown2 := hide hown2; have Hb2 := hide hb2; clear hown2 hb2 hg2))
      go_ret
      exact ⟨_, rfl, by rw [He.out]; exact Hown2.out, Hb2.out, grown_then Hg1.out Hg2.out⟩
    · go_enter Tryz.func17, Tryz.ntmps17
      go_wp2_with (first | (refine wpList_catT rfl _ (.tmp 20) 23 rfl Tryz.underlying23 infoText B w (.slice none 0 0) [] ins P A c rfl rfl (OwT.nil _ _ _) Hs.out (by have := Hn.out; simp; omega) hB0 HB.out ?_; intro vi w1 hvi hb1 hg1; rw [List.nil_append] at hvi; have hown1 : OwE w1 B v L := Hown.out.move (B' := w.heap.size) ⟨hb1.os, hb1.tape, hb1.output, hg1.size, fun k hk => hg1.block k hk (by simp [Value.ownBlock])⟩ (Nat.le_refl _); obtain ⟨Ai, ci, rfl, _⟩ := OwT.vs hvi; have Hvi := hide hvi; have Hown1 := hide hown1; have Hb1 := hide hb1; have Hg1 := hide hg1; clear hvi hown1 hb1 hg1) | (refine wpList_pushE rfl (.tmp 17) (.tmp 23) rfl B w _ _ L ⟨pos, del, ins⟩ _ rfl rfl rfl Hown1.out Hvi.out Hl.out Hb1.out (Nat.le_trans HB.out Hb1.out.size) ?_; intro v' w2 hown2 hb2 hg2; have Hg2 := hide hg2; have Hown2 := hide hown2; have Hb2 := hide hb2; clear hown2 hb2 hg2))
      go_ret
      exact ⟨_, rfl, by rw [He.out]; exact Hown2.out, Hb2.out, grown_then Hg1.out Hg2.out⟩
end Go.Proofs.YtnehgogajghefaaGreatDoor.Df
namespace Go.Proofs.YtnehgogajghefaaGreatDoor.Df
open Go Go.RowKit Kt Lw

theorem vs_cut {w : World} {P : Nat → Prop} {A : Option Addr} {c : Nat} {l : Ls} (h : Vs w P A c (texts l)) {i j : Nat} (hij : i ≤ j) (hj : j ≤ l.length) :
    Vs w P (if c = i then A else A.map (·.add i)) (c - i) (texts ((l.drop i).take (j - i))) := by
  have h1 := h.1
  rw [texts_len] at h1
  refine ⟨by rw [texts_len, List.length_take, List.length_drop]; omega, fun hn => ?_⟩
  rw [texts_len, List.length_take, List.length_drop] at hn
  obtain ⟨b, o, rfl, hp, hc⟩ := h.2 (by rw [texts_len]; omega)
  rw [if_neg (by omega)]
  refine ⟨b, o + i, by simp [Addr.add_mid], hp, fun k v hk => ?_⟩
  have hkl := (List.getElem?_eq_some_iff.1 hk).1
  rw [texts_len, List.length_take, List.length_drop] at hkl
  rw [show o + i + k = o + (i + k) from by omega]
  refine hc (i + k) v ?_
  rw [← hk]
  unfold texts
  rw [List.getElem?_map, List.getElem?_map, List.getElem?_take, if_pos (by omega), List.getElem?_drop]

theorem own_ne {w : World} {B g : Nat} {v : Value} {l : Ls} {cs : List Value} (hrow : Row w g tE cs) (hown : OwT w B tS v l) : some g ≠ v.ownBlock := by
  intro h
  rcases hown.2 with ⟨rfl, _⟩ | ⟨g', cap', cur', rfl, _, hgg', _⟩
  · cases h
  · simp only [Value.ownBlock, Option.some.injEq] at h
    subst h
    unfold Row at hrow
    rw [hgg'] at hrow
    simp [tS, tE] at hrow
theorem run_cut2 (w : World) (A : Option Addr) (n c i j : Nat) (hij : i ≤ j) (hj : j ≤ c) :
    (Instr.slice 23 (.slice A n c) (some (.int .i64 (i : Int))) (some (.int .i64 (j : Int))) none).run Tryz.prog w = .ok (.slice (if c = i then A else A.map (·.add i)) (j - i) (c - i)) w := by
  have hu := run_underlying Tryz.underlying23
  cases A with
  | none => go_simp
  | some ad => go_simp
theorem run_cut1 (w : World) (A : Option Addr) (n c i : Nat) (hi : i ≤ n) :
    (Instr.slice 23 (.slice A n c) (some (.int .i64 (i : Int))) none none).run Tryz.prog w = .ok (.slice (if c = i then A else A.map (·.add i)) (n - i) (c - i)) w := by
  have hu := run_underlying Tryz.underlying23
  cases A with
  | none => go_simp
  | some ad => go_simp

end Go.Proofs.YtnehgogajghefaaGreatDoor.Df
namespace Go.Proofs.YtnehgogajghefaaGreatDoor.Hu
open Go Go.RowKit Kt Lw Li Df

theorem size_of (l : List UInt8) : (ByteArray.mk l.toArray).size = l.length := rfl
theorem get_at (l : List UInt8) (k : Nat) (h : k < (ByteArray.mk l.toArray).size) : (ByteArray.mk l.toArray)[k] = l.getD k 0 := by
  have h' : k < l.length := h
  have : (ByteArray.mk l.toArray)[k] = l[k]'h' := rfl
  rw [this]
  simp [List.getElem?_eq_getElem h']
theorem sg_get (x : List UInt8) : x.getD 0 0 = sg x := by cases x <;> rfl
set_option maxHeartbeats 400000 in
theorem sign_any (x : List UInt8) (w : World) : Calls Tryz.prog 46 #[.string ⟨x.toArray⟩] w fun y w' => y = .returned (.int .u8 ((sg x).toNat : Int)) ∧ w' = w := by
  by_cases h : x = []
  · subst h
    go_enter Tryz.func46, Tryz.ntmps46
    go_wp2
    go_ret
    exact ⟨rfl, rfl⟩
  · have he : x.isEmpty = false := by cases x with | nil => exact absurd rfl h | cons _ _ => rfl
    have hl : 0 < x.length := List.length_pos_iff.2 h
    have hs := size_of x
    have hg := get_at x 0 (by rw [hs]; exact hl)
    rw [sg_get] at hg
    generalize sg x = s at *
    go_enter Tryz.func46, Tryz.ntmps46
    go_wp2
    go_ret
    exact ⟨rfl, rfl⟩
set_option maxHeartbeats 400000 in
theorem end_any (p d : Int) (v : Value) (w : World) (h : -4503599627370496 ≤ p ∧ p ≤ 4503599627370496) (h' : -4503599627370496 ≤ d ∧ d ≤ 4503599627370496) :
    Calls Tryz.prog 38 #[.agg #[.int .i64 p, .int .i64 d, v]] w fun y w' => y = .returned (.int .i64 (p + d)) ∧ Below w.heap.size w w' := by
  have hw : IntKind.i64.wrap (p + d) = p + d := IntWalk.i64_in _ (by omega)
  go_enter Tryz.func38, Tryz.ntmps38
  go_wp2
  go_ret
  exact ⟨rfl, (Below.refl _ w).alloc (Nat.le_refl _) _⟩

theorem u8_ne {b c : UInt8} (h : b ≠ c) : ((b.toNat : Int) == (c.toNat : Int)) = false := by
  rw [beq_eq_false_iff_ne]
  intro e
  exact h (UInt8.toNat_inj.1 (by omega))
theorem many_leN (s : UInt8) (L : Ls) (k : Nat) : many s (L.take k) ≤ k := Nat.le_trans (many_le s _) (List.length_take_le _ _)
set_option maxHeartbeats 1000000 in
set_option maxRecDepth 100000 in
theorem count_any (L : Ls) (A : Option Addr) (c : Nat) (P : Nat → Prop) (w : World) (hs : Vs w P A c (texts L)) (hn : L.length ≤ 1000000) :
    Calls Tryz.prog 40 #[.slice A L.length c] w fun y w' => y = .returned (.tuple #[.int .i64 (many 45 L : Int), .int .i64 (many 43 L : Int)]) ∧ Below w.heap.size w w' := by
  have Hs := hide hs.bound
  obtain ⟨N, hN⟩ : ∃ N, N = L.length := ⟨_, rfl⟩
  rw [← hN] at hn ⊢
  have HN := hide hN
  clear hs hN
  go_enter Tryz.func40, Tryz.ntmps40
  go_wp2
  go_loopw [2, 3, 8] (fun o f i wr => ∃ k : Nat, k ≤ N ∧ i = .int .i64 k ∧ o = .int .i64 (many 45 (L.take k) : Int) ∧ f = .int .i64 (many 43 (L.take k) : Int) ∧ Below w.heap.size w wr) (fun _ _ i _ => N - (intOf i).toNat)
  case atStart => exact ⟨0, Nat.zero_le _, rfl, by simp [many], by simp [many], Below.refl _ _⟩
  case round =>
    obtain ⟨k, hk, rfl, rfl, rfl, hb⟩ := hrel
    have Hb := hide hb
    clear hb
    by_cases hlt : k < N
    · obtain ⟨b, o, rfl, ck⟩ := Hs.out.text Hb.out (k := k) (by have := HN.out; omega)
      have H1 := hide (many_snoc 45 L k (by have := HN.out; omega))
      have H2 := hide (many_snoc 43 L k (by have := HN.out; omega))
      have h1 := many_leN 45 L k
      have h2 := many_leN 43 L k
      generalize many 45 (L.take k) = p at *
      generalize many 43 (L.take k) = q at *
      generalize L.getD k [] = x at *
      have HS := hide (sign_any x)
      by_cases h45 : sg x = 45
      · rw [h45] at HS H1 H2
        have H1' := hide (show many 45 (L.take (k + 1)) = p + 1 from H1.out)
        have H2' := hide (show many 43 (L.take (k + 1)) = q from H2.out)
        clear H1 H2 h45
        go_wp2_with fail
        refine (HS.out _).mono ?_
        rintro y w1 ⟨rfl, rfl⟩
        go_wp2
        exact ⟨⟨k + 1, by omega, by go_num, by rw [H1'.out]; go_num, by rw [H2'.out], Hb.out⟩, by simp [intOf]; omega⟩
      by_cases h32 : sg x = 32
      · rw [h32] at HS H1 H2
        have H1' := hide (show many 45 (L.take (k + 1)) = p + 1 from H1.out)
        have H2' := hide (show many 43 (L.take (k + 1)) = q + 1 from H2.out)
        clear H1 H2 h45 h32
        go_wp2_with fail
        refine (HS.out _).mono ?_
        rintro y w1 ⟨rfl, rfl⟩
        go_wp2
        exact ⟨⟨k + 1, by omega, by go_num, by rw [H1'.out]; go_num, by rw [H2'.out]; go_num, Hb.out⟩, by simp [intOf]; omega⟩
      by_cases h43 : sg x = 43
      · rw [h43] at HS H1 H2
        have H1' := hide (show many 45 (L.take (k + 1)) = p from H1.out)
        have H2' := hide (show many 43 (L.take (k + 1)) = q + 1 from H2.out)
        clear H1 H2 h45 h32 h43
        go_wp2_with fail
        refine (HS.out _).mono ?_
        rintro y w1 ⟨rfl, rfl⟩
        go_wp2
        exact ⟨⟨k + 1, by omega, by go_num, by rw [H1'.out], by rw [H2'.out]; go_num, Hb.out⟩, by simp [intOf]; omega⟩
      have H1' := hide (show many 45 (L.take (k + 1)) = p by rw [H1.out, if_neg (by rintro (h | h); exact h32 h; exact h45 h)]; rfl)
      have H2' := hide (show many 43 (L.take (k + 1)) = q by rw [H2.out, if_neg (by rintro (h | h); exact h32 h; exact h43 h)]; rfl)
      have e1 : (((sg x).toNat : Int) == 45) = false := u8_ne h45
      have e2 : (((sg x).toNat : Int) == 32) = false := u8_ne h32
      have e3 : (((sg x).toNat : Int) == 43) = false := u8_ne h43
      clear H1 H2 h45 h32 h43
      generalize ((sg x).toNat : Int) = n at *
      go_wp2_with fail
      refine (HS.out _).mono ?_
      rintro y w1 ⟨rfl, rfl⟩
      go_wp2
      exact ⟨⟨k + 1, by omega, by go_num, by rw [H1'.out], by rw [H2'.out], Hb.out⟩, by simp [intOf]; omega⟩
    · obtain rfl : k = N := by omega
      go_wp2
      go_ret2
      exact ⟨by rw [HN.out, List.take_length]; rfl, Hb.out⟩
end Go.Proofs.YtnehgogajghefaaGreatDoor.Hu
namespace Go.Proofs.YtnehgogajghefaaGreatDoor.Df
open Go Go.RowKit Kt Lw

theorem infoTx : (Tryz.prog.info? 9).map (fun i => (i.zero, i.size, i.bytes)) = some (some (.string ⟨#[]⟩), 1, 16) := by kernel_rfl
theorem wp_pushT {o : Oper} {a : Act} {K : Act → World → Prop} {Q : Exit → Act → World → Prop} {W : World} (s x : Operand)
    (ho : o.op = .call { callee := .builtin .append, args := #[s, x], argTypes := #[23, 23] })
    (B : Nat) (w0 : World) (v : Value) (l : Ls) (y : List UInt8) (cs : Array Value) (hs : a.eval s = v) (hx : a.eval x = .slice (some ⟨W.heap.size, 0, none⟩) 1 1) (hc : cs = #[.string ⟨y.toArray⟩])
    (hown : OwT W B tS v l) (hlen : l.length + 1 ≤ 1000000000) (hb : Below B w0 W) (hbase : B ≤ W.heap.size)
    (h : ∀ v' w', OwT w' B tS v' (l ++ [y]) → Below B w0 w' → W.grownBy w' v.ownBlock → (v'.ownBlock = v.ownBlock ∨ v'.ownBlock = some (W.heap.size + 1)) → K (a.put o.dst v') w') : o.wp Tryz.prog a (W.alloc (.cells cs tS)) K Q := by
  obtain ⟨i0, hi0, hz0, hz1, hz2⟩ := info_parts infoTx
  subst hc
  have hown' : (W.alloc (.cells #[.string ⟨y.toArray⟩] tS)).ownsRow B tS 1 v l.length (texts l) := World.ownsRow.alloc hown _
  have hnews : ∀ j u, (texts [y])[j]? = some u → (W.alloc (.cells #[.string ⟨y.toArray⟩] tS)).cell? ((⟨W.heap.size, 0, none⟩ : Addr).add j) = some u := fun j u hu => by
    rw [Addr.add_mid, (Row.fresh W tS #[.string ⟨y.toArray⟩]).cell, Nat.zero_add]
    exact hu
  obtain ⟨v', w', hr, h1, h2, _⟩ := run_append_own (P := Tryz.prog) (W.alloc (.cells #[.string ⟨y.toArray⟩] tS)) B 23 o.type tS i0 (.string ⟨#[]⟩) 1 16 Tryz.underlying23 hi0 hz0 hz1 hz2 rfl (by omega) v l.length (texts l) hown'
    ⟨W.heap.size, 0, none⟩ 1 1 (texts [y]) rfl hnews (texts_one [y]) (by unfold maxLen; omega) (by omega) (by simp; omega)
  have hg := grownBy_back _ h2
  have hbl : v'.ownBlock = v.ownBlock ∨ v'.ownBlock = some (W.heap.size + 1) := by
    rcases hown'.2 with ⟨rfl, h0⟩ | ⟨g, cap, cur, rfl, _, hgg, hnc, _, hcs, htake⟩
    · have hr2 := run_append_nil (P := Tryz.prog) (W.alloc (.cells #[.string ⟨y.toArray⟩] tS)) 23 o.type tS i0 (.string ⟨#[]⟩) Tryz.underlying23 hi0 hz0 ⟨W.heap.size, 0, none⟩ 1 1 (texts [y]) (by rw [hz1]; rfl) hnews (by omega) (by omega) (by rw [hz2]; omega)
      rw [hr] at hr2
      injection hr2 with e1 _
      right
      rw [e1]
      simp [Value.ownBlock]
    · by_cases hroom : l.length + 1 ≤ cap
      · have hr2 := run_append_room (P := Tryz.prog) (W.alloc (.cells #[.string ⟨y.toArray⟩] tS)) 23 o.type tS i0 Tryz.underlying23 hi0 g l.length cap cur hgg ⟨W.heap.size, 0, none⟩ 1 1 (texts [y]) (by rw [hz1]; rfl) hnews (texts_one [y]) hroom (by rw [hz1, hcs]; simp [texts]; omega)
        rw [hr] at hr2
        injection hr2 with e1 _
        left
        rw [e1]
        rfl
      · have hr2 := run_append_grow (P := Tryz.prog) (W.alloc (.cells #[.string ⟨y.toArray⟩] tS)) 23 o.type tS i0 (.string ⟨#[]⟩) Tryz.underlying23 hi0 hz0 ⟨g, 0, none⟩ l.length cap (texts l) (by rw [hz1, texts_len]; omega) (World.ownsRow.cells hown' rfl)
          ⟨W.heap.size, 0, none⟩ 1 1 (texts [y]) (by rw [hz1]; rfl) hnews (by omega) (by omega) (growslice_fits (by omega) (by rw [hz2]; omega))
        rw [hr] at hr2
        injection hr2 with e1 _
        right
        rw [e1]
        simp [Value.ownBlock]
  unfold Oper.wp execOp
  simp only [ho, resolve, invoke, builtin, Sem.run_bind, Sem.run_pure, Result.andThen_ok, List.map_toArray, List.map_cons, List.map_nil, hs, hx, hr]
  refine h v' w' ?_ (hb.grown hg hbase fun k hk => (World.ownsRow.lt hown k hk).1) hg hbl
  unfold OwT
  rw [List.length_append, texts_append]
  exact h1
theorem wpList_pushT {ops : Array Oper} {rest : List Oper} {o : Oper} {a : Act} {Q : Exit → Act → World → Prop} {W : World} (hgd : o.guard = none) (s x : Operand)
    (ho : o.op = .call { callee := .builtin .append, args := #[s, x], argTypes := #[23, 23] })
    (B : Nat) (w0 : World) (v : Value) (l : Ls) (y : List UInt8) (cs : Array Value) (hs : a.eval s = v) (hx : a.eval x = .slice (some ⟨W.heap.size, 0, none⟩) 1 1) (hc : cs = #[.string ⟨y.toArray⟩])
    (hown : OwT W B tS v l) (hlen : l.length + 1 ≤ 1000000000) (hb : Below B w0 W) (hbase : B ≤ W.heap.size)
    (h : ∀ v' w', OwT w' B tS v' (l ++ [y]) → Below B w0 w' → W.grownBy w' v.ownBlock → (v'.ownBlock = v.ownBlock ∨ v'.ownBlock = some (W.heap.size + 1)) → wpList Tryz.prog ops Q rest (a.put o.dst v') w') : wpList Tryz.prog ops Q (o :: rest) a (W.alloc (.cells cs tS)) :=
  wpList_plain hgd fun _ hK => wp_pushT s x ho B w0 v l y cs hs hx hc hown hlen hb hbase fun v' w' h1 h2 h3 h4 => hK _ _ (h v' w' h1 h2 h3 h4)
end Go.Proofs.YtnehgogajghefaaGreatDoor.Df
namespace Go.Proofs.YtnehgogajghefaaGreatDoor.Hu
open Go Go.RowKit Kt Lw Li Df

abbrev tw (s : UInt8) (L : Ls) : Ls := L.takeWhile (fun x => decide (sg x = s))
abbrev dw (s : UInt8) (L : Ls) : Ls := L.dropWhile (fun x => decide (sg x = s))
theorem tw_is (s : UInt8) : ∀ (L : Ls) (k : Nat), k ≤ L.length → (∀ j, j < k → sg (L.getD j []) = s) → (k < L.length → sg (L.getD k []) ≠ s) → tw s L = L.take k ∧ dw s L = L.drop k
  | [], k, hk, _, _ => by
    obtain rfl : k = 0 := by simpa using hk
    exact ⟨rfl, rfl⟩
  | x :: L, 0, _, _, h => by
    have := h (by simp)
    unfold tw dw
    rw [List.takeWhile_cons, List.dropWhile_cons, decide_eq_false (show ¬ sg x = s by simpa using this)]
    exact ⟨rfl, rfl⟩
  | x :: L, k + 1, hk, h1, h2 => by
    have h0 := h1 0 (by omega)
    obtain ⟨e1, e2⟩ := tw_is s L k (by simpa using hk) (fun j hj => by simpa using h1 (j + 1) (by omega)) (fun h => by simpa using h2 (by simpa using h))
    unfold tw dw at *
    rw [List.takeWhile_cons, List.dropWhile_cons, decide_eq_true (show sg x = s by simpa using h0), e1, e2]
    exact ⟨rfl, rfl⟩
theorem vs_take {w : World} {P : Nat → Prop} {A : Option Addr} {c : Nat} {l : Ls} (h : Vs w P A c (texts l)) (j : Nat) : Vs w P A c (texts (l.take j)) := by
  have h1 := h.1
  rw [texts_len] at h1
  refine ⟨by rw [texts_len, List.length_take]; omega, fun hn => ?_⟩
  rw [texts_len, List.length_take] at hn
  obtain ⟨b, o, rfl, hp, hc⟩ := h.2 (by rw [texts_len]; omega)
  refine ⟨b, o, rfl, hp, fun k v hk => hc k v ?_⟩
  have hkl := (List.getElem?_eq_some_iff.1 hk).1
  rw [texts_len, List.length_take] at hkl
  rw [← hk]
  unfold texts
  rw [List.getElem?_map, List.getElem?_map, List.getElem?_take, if_pos (by omega)]
theorem run_cut0 (w : World) (A : Option Addr) (n c j : Nat) (hA : ∀ a, A = some a → a.spot = none) (hj : j ≤ c) :
    (Instr.slice 23 (.slice A n c) none (some (.int .i64 (j : Int))) none).run Tryz.prog w = .ok (.slice A j c) w := by
  have hu := run_underlying Tryz.underlying23
  cases A with
  | none => go_simp
  | some ad =>
    obtain ⟨b, o, sp⟩ := ad
    obtain rfl : sp = none := hA _ rfl
    go_simp

set_option maxHeartbeats 1000000 in
set_option maxRecDepth 100000 in
theorem front_any (s : UInt8) (L : Ls) (A : Option Addr) (c : Nat) (P : Nat → Prop) (w0 w : World) (hs : Vs w0 P A c (texts L)) (hb0 : Below w0.heap.size w0 w) (hn : L.length ≤ 1000000) (hA : ∀ a, A = some a → a.spot = none) :
    Calls Tryz.prog 48 #[.slice A L.length c, .int .u8 (s.toNat : Int)] w fun y w' => ∃ A2 c2, y = .returned (.tuple #[.slice A (tw s L).length c, .slice A2 (dw s L).length c2]) ∧ Vs w0 P A c (texts (tw s L)) ∧ Vs w0 P A2 c2 (texts (dw s L)) ∧ (∀ a, A2 = some a → a.spot = none) ∧ Below w.heap.size w w' := by
  have Hs := hide (Lw.Vs.bound (Lw.Vs.below hs hb0))
  have HsP := hide hs
  have hcap := hs.1
  rw [texts_len] at hcap
  obtain ⟨N, hN⟩ : ∃ N, N = L.length := ⟨_, rfl⟩
  rw [← hN] at hn hcap ⊢
  have HN := hide hN
  have HA := hide hA
  clear hs hN hA hb0
  go_enter Tryz.func48, Tryz.ntmps48
  go_wp2
  go_loopw [6] (fun i wr => ∃ k : Nat, k ≤ N ∧ i = .int .i64 k ∧ (∀ j, j < k → sg (L.getD j []) = s) ∧ Below w.heap.size w wr) (fun i _ => N - (intOf i).toNat)
  case atStart => exact ⟨0, Nat.zero_le _, rfl, fun j h => absurd h (Nat.not_lt_zero _), Below.refl _ _⟩
  case round =>
    obtain ⟨k, hk, rfl, hall, hb⟩ := hrel
    have Hb := hide hb
    have Hall := hide hall
    clear hb hall
    by_cases hlt : k < N
    · obtain ⟨b, o, rfl, ck⟩ := Hs.out.text Hb.out (k := k) (by have := HN.out; omega)
      by_cases hx : sg (L.getD k []) = s
      · have Hx := hide hx
        have HS := hide (sign_any (L.getD k []))
        rw [hx] at HS
        generalize L.getD k [] = x at ck HS
        clear hx
        generalize (s.toNat : Int) = n at *
        go_wp2_with fail
        refine (HS.out _).mono ?_
        rintro y w1 ⟨rfl, rfl⟩
        go_wp2
        refine ⟨⟨k + 1, by omega, by go_num, fun j hj => ?_, Hb.out⟩, by simp [intOf]; omega⟩
        rcases Nat.lt_or_ge j k with hj' | hj'
        · exact Hall.out j hj'
        · obtain rfl : j = k := by omega
          exact Hx.out
      · have Hx := hide hx
        have hne := u8_ne hx
        have HS := hide (sign_any (L.getD k []))
        generalize L.getD k [] = x at ck HS hne
        generalize ((sg x).toNat : Int) = n at *
        generalize (s.toNat : Int) = m at *
        have htw := tw_is s L k (by have := HN.out; omega) Hall.out (fun _ => Hx.out)
        have Htw := hide htw
        have hlen : (tw s L).length = k := by rw [htw.1, List.length_take]; have := HN.out; omega
        have hlen2 : (dw s L).length = N - k := by rw [htw.2, List.length_drop, ← HN.out]
        have Hlen := hide hlen
        have Hlen2 := hide hlen2
        have hrun0 := fun w => run_cut0 w (some ⟨b, o, none⟩) N c k HA.out (by omega)
        have hrun1 := fun w => run_cut1 w (some ⟨b, o, none⟩) N c k (by omega)
        have Hc2 := hide (show Vs w0 P (some ⟨b, o + k, none⟩) (c - k) (texts (dw s L)) by
          have := vs_cut HsP.out (i := k) (j := L.length) (by have := HN.out; omega) (Nat.le_refl _)
          rw [if_neg (show ¬ c = k by omega), show (some (⟨b, o, none⟩ : Addr)).map (·.add k) = some ⟨b, o + k, none⟩ by simp [Addr.add_mid]] at this
          rw [htw.2]
          rwa [List.take_of_length_le (by rw [List.length_drop]; omega)] at this)
        have Hc1 := hide (show Vs w0 P (some ⟨b, o, none⟩) c (texts (tw s L)) by rw [htw.1]; exact vs_take HsP.out k)
        clear htw hlen hlen2 hx
        go_wp2_with fail
        refine (HS.out _).mono ?_
        rintro y w1 ⟨rfl, rfl⟩
        go_wp2
        go_quiet (fail)
        go_wp2
        go_ret2
        exact ⟨_, _, by rw [Hlen.out, Hlen2.out]; rfl, Hc1.out, Hc2.out, by simp, below_drewN Hb.out _⟩
    · obtain rfl : k = N := by omega
      have htw := tw_is s L k (by have := HN.out; omega) Hall.out (fun h => by have := HN.out; omega)
      have Htw := hide htw
      have hlen : (tw s L).length = k := by rw [htw.1, List.length_take]; have := HN.out; omega
      have hlen2 : (dw s L).length = k - k := by rw [htw.2, List.length_drop, ← HN.out]
      have Hlen := hide hlen
      have Hlen2 := hide hlen2
      have hrun0 := fun w => run_cut0 w A k c k HA.out (by omega)
      have hrun1 := fun w => run_cut1 w A k c k (by omega)
      have Hc2 := hide (show Vs w0 P (if c = k then A else A.map (·.add k)) (c - k) (texts (dw s L)) by
        have := vs_cut HsP.out (i := k) (j := L.length) (by have := HN.out; omega) (Nat.le_refl _)
        rw [htw.2]
        rwa [List.take_of_length_le (by rw [List.length_drop]; omega)] at this)
      have Hc1 := hide (show Vs w0 P A c (texts (tw s L)) by rw [htw.1]; exact vs_take HsP.out k)
      have HA2 := hide (show ∀ a, (if c = k then A else A.map (·.add k)) = some a → a.spot = none by
        intro a ha
        split at ha
        · exact HA.out a ha
        · cases A with
          | none => cases ha
          | some ad =>
            have hsp := HA.out ad rfl
            obtain ⟨b, o, sp⟩ := ad
            simp at hsp
            subst hsp
            simp [Addr.add_mid] at ha
            rw [← ha])
      obtain ⟨A2, hA2⟩ : ∃ A2, (if c = k then A else A.map (·.add k)) = A2 := ⟨_, rfl⟩
      obtain ⟨c2, hc2⟩ : ∃ c2, c - k = c2 := ⟨_, rfl⟩
      rw [hA2, hc2] at Hc2
      rw [hA2] at HA2
      simp only [hA2, hc2, Nat.sub_self] at hrun1
      rw [Nat.sub_self] at Hlen2
      clear htw hlen hlen2 hA2 hc2
      go_wp2
      go_quiet (fail)
      go_wp2
      go_ret2
      exact ⟨_, _, by rw [Hlen.out, Hlen2.out]; rfl, Hc1.out, Hc2.out, HA2.out, below_drewN Hb.out _⟩
end Go.Proofs.YtnehgogajghefaaGreatDoor.Hu
namespace Go.Proofs.YtnehgogajghefaaGreatDoor.Hu
open Go Go.RowKit Kt Lw Li Df

theorem mk_at (s : UInt8) (l : Ls) (k : Nat) (h : k < l.length) : (mk s l).getD k [] = s :: l.getD k [] := by
  simp [mk, List.getElem?_eq_getElem h]
theorem take_snoc (l : Ls) (k : Nat) (h : k < l.length) : l.take (k + 1) = l.take k ++ [l.getD k []] := by
  rw [List.take_succ_eq_append_getElem h]; simp [List.getElem?_eq_getElem h]
theorem cut_tail (x : List UInt8) (s : UInt8) : (ByteArray.mk (s :: x).toArray).extract 1 (s :: x).length = ⟨x.toArray⟩ := by
  apply ByteArray.ext
  simp
set_option maxHeartbeats 1000000 in
set_option maxRecDepth 100000 in
theorem bare_any (s : UInt8) (l : Ls) (A : Option Addr) (c : Nat) (P : Nat → Prop) (w : World) (hs : Vs w P A c (texts (mk s l))) (hn : l.length ≤ 1000000) :
    Calls Tryz.prog 31 #[.slice A l.length c] w fun y w' => ∃ v, y = .returned v ∧ OwT w' w.heap.size tS v l ∧ Below w.heap.size w w' := by
  have Hs := hide hs.bound
  obtain ⟨N, hN⟩ : ∃ N, N = l.length := ⟨_, rfl⟩
  rw [← hN] at hn ⊢
  have HN := hide hN
  clear hs hN
  go_enter Tryz.func31, Tryz.ntmps31
  go_wp2
  go_loopw [3, 8] (fun v i wr => ∃ (k : Nat) (v0 : Value), v0 = v ∧ k ≤ N ∧ i = .int .i64 k ∧ OwT wr w.heap.size tS v0 (l.take k) ∧ Below w.heap.size w wr) (fun _ i _ => N - (intOf i).toNat)
  case atStart => exact ⟨0, _, rfl, Nat.zero_le _, rfl, OwT.nil _ _ _, Below.refl _ _⟩
  case round =>
    obtain ⟨k, v, rfl, hk, rfl, hown, hb⟩ := hrel
    have Hb := hide hb
    have Hown := hide hown
    clear hb hown
    by_cases hlt : k < N
    · obtain ⟨b, o, rfl, ck⟩ := Hs.out.text Hb.out (k := k) (by rw [mk_len]; have := HN.out; omega)
      rw [mk_at s l k (by have := HN.out; omega)] at ck
      have Ht := hide (take_snoc l k (by have := HN.out; omega))
      have hlk : (l.take k).length ≤ 1000000 := by rw [List.length_take]; omega
      have Hlk := hide hlk
      clear hlk
      generalize l.getD k [] = x at *
      generalize l.take k = p at *
      have hz := cut_tail x s
      obtain ⟨z, hze⟩ : ∃ z, z = s :: x := ⟨_, rfl⟩
      have hz1 : 1 ≤ z.length := by rw [hze]; simp
      rw [← hze] at hz ck
      clear hze
      have hB1 : w.heap.size ≤ wr.heap.size := Hb.out.size
      go_wp2_with (refine wpList_pushT rfl (.tmp 12) (.tmp 15) rfl w.heap.size w v p x _ rfl rfl rfl Hown.out (by have := Hlk.out; omega) Hb.out hB1 ?_; intro v1 w1 hown1 hb1 _ _)
      exact ⟨⟨k + 1, _, rfl, by omega, by go_num, by rw [Ht.out]; exact hown1, hb1⟩, by simp [intOf]; omega⟩
    · obtain rfl : k = N := by omega
      go_wp2
      go_ret
      exact ⟨_, rfl, by have := Hown.out; rwa [HN.out, List.take_length] at this, Hb.out⟩

theorem grown_more {a b c : World} {r r' : Option Nat} (h : a.grownBy b r) (k : b.grownBy c r') (hr : r' = r ∨ ∃ g, r' = some g ∧ a.heap.size ≤ g) : a.grownBy c r :=
  ⟨k.os.trans h.os, k.tape.trans h.tape, k.output.trans h.output, Nat.le_trans h.size k.size, fun i hi hne => (k.block i (Nat.lt_of_lt_of_le hi h.size) (by
    rcases hr with rfl | ⟨g, rfl, hg⟩
    · exact hne
    · intro e; injection e with e; omega)).trans (h.block i hi hne)⟩
theorem sign_conv (s : UInt8) (hs : s = 32 ∨ s = 45 ∨ s = 43) (w : World) : (convert 5 9 (.int .u8 (s.toNat : Int))).run Tryz.prog w = .ok (.string ⟨[s].toArray⟩) w := by
  rcases hs with rfl | rfl | rfl <;> kernel_rfl
set_option maxHeartbeats 1000000 in
set_option maxRecDepth 100000 in
theorem add_any (s : UInt8) (hs3 : s = 32 ∨ s = 45 ∨ s = 43) (B : Nat) (v : Value) (L l : Ls) (A : Option Addr) (c : Nat) (P : Nat → Prop) (w : World) (hown : OwT w B tS v L) (hs : Vs w P A c (texts l)) (hB : B ≤ w.heap.size) (hL : L.length ≤ 1000000) (hn : l.length ≤ 1000000)
    (hP : ∀ b, P b → some b ≠ v.ownBlock) (hx : ∀ x ∈ l, x.length ≤ 9223372036854775806) :
    Calls Tryz.prog 39 #[v, .int .u8 (s.toNat : Int), .slice A l.length c] w fun y w' => ∃ v', y = .returned v' ∧ OwT w' B tS v' (L ++ mk s l) ∧ Below B w w' ∧ w.grownBy w' v.ownBlock ∧ (v'.ownBlock = v.ownBlock ∨ ∃ g, v'.ownBlock = some g ∧ w.heap.size ≤ g) := by
  have Hs := hide (show ∀ wr, w.grownBy wr v.ownBlock → Vs wr (fun b => b < wr.heap.size) A c (texts l) from fun wr hg => Lw.Vs.bound (Lw.Vs.move hs fun b hb hlt => hg.block b hlt (hP b hb)))
  have Hx := hide hx
  obtain ⟨N, hN⟩ : ∃ N, N = l.length := ⟨_, rfl⟩
  rw [← hN] at hn ⊢
  have HN := hide hN
  have Hown := hide hown
  have HB := hide hB
  have HL := hide hL
  have hconv := sign_conv s hs3
  obtain ⟨R, hR⟩ : ∃ R, R = v.ownBlock := ⟨_, rfl⟩
  rw [← hR] at Hs ⊢
  have HR := hide hR
  clear hP hs hN hown hB hL hx hR
  generalize hsn : (s.toNat : Int) = n at *
  go_enter Tryz.func39, Tryz.ntmps39
  go_wp2
  go_loopw [0, 11] (fun u i wr => ∃ (k : Nat) (v0 : Value), v0 = u ∧ k ≤ N ∧ i = .int .i64 k ∧ OwT wr B tS v0 (L ++ mk s (l.take k)) ∧ Below B w wr ∧ w.grownBy wr R ∧ (v0.ownBlock = R ∨ ∃ g, v0.ownBlock = some g ∧ w.heap.size ≤ g)) (fun _ i _ => N - (intOf i).toNat)
  case atStart => exact ⟨0, _, rfl, Nat.zero_le _, rfl, by simpa [mk_nil] using Hown.out, Below.refl _ _, World.grownBy.refl _ _, .inl HR.out.symm⟩
  case round =>
    obtain ⟨k, u, rfl, hk, rfl, hown, hb, hg, hr⟩ := hrel
    have Hb := hide hb
    have Hg := hide hg
    have Hr := hide hr
    have Hown1 := hide hown
    clear hb hown hg hr
    by_cases hlt : k < N
    · obtain ⟨b, o, rfl, ck⟩ := (Hs.out wr Hg.out).text (Below.refl _ _) (k := k) (by have := HN.out; omega)
      have Ht := hide (take_snoc l k (by have := HN.out; omega))
      have hxl := Hx.out (l.getD k []) (by simp [List.getElem?_eq_getElem (show k < l.length by have := HN.out; omega)])
      have hlk : (L ++ mk s (l.take k)).length ≤ 2000000 := by rw [List.length_append, mk_len, List.length_take]; have := HL.out; omega
      have Hlk := hide hlk
      clear hlk
      generalize l.getD k [] = x at *
      generalize l.take k = p at *
      have ea := app_txt [s] x
      have hB1 : B ≤ wr.heap.size := Nat.le_trans HB.out Hb.out.size
      go_wp2_with (refine wpList_pushT rfl (.tmp 15) (.tmp 20) rfl B w u (L ++ mk s p) (s :: x) _ rfl rfl rfl Hown1.out (by have := Hlk.out; omega) Hb.out hB1 ?_; intro v1 w1 hown1 hb1 hg1 hr1)
      have hown2 : OwT w1 B tS v1 (L ++ mk s (p ++ [x])) := by rw [mk_append, ← List.append_assoc]; exact hown1
      refine ⟨⟨k + 1, _, rfl, by omega, by go_num, by rw [Ht.out]; exact hown2, hb1, grown_more Hg.out hg1 ?_, ?_⟩, by simp [intOf]; omega⟩
      · rcases Hr.out with h | ⟨g, h, hg⟩
        · exact .inl h
        · exact .inr ⟨g, h, hg⟩
      · rcases hr1 with h | h
        · rw [h]; exact Hr.out
        · exact .inr ⟨_, h, by have := Hg.out.size; omega⟩
    · obtain rfl : k = N := by omega
      go_wp2
      go_ret
      exact ⟨_, rfl, by have := Hown1.out; rwa [HN.out, List.take_length] at this, Hb.out, Hg.out, Hr.out⟩
end Go.Proofs.YtnehgogajghefaaGreatDoor.Hu
