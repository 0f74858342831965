/-
  Rows of edits: such that came in, and such that the call itself owns.
-/
import Derived.Test.YteehbpnbephojaaET
import Derived.Test.YteehbpnbephojaaQ1
namespace Go.Proofs.Yteehbpnbephojaa.Df
open Go Go.RowKit Kt Lw

abbrev tS : TypeId := 9
abbrev tE : TypeId := 53
/-- an edit's cells -/
def edC (e : Ed) (vi : Value) : List Value := [.int .i64 e.pos, .int .i64 e.del, vi]
theorem flat_at {α : Type} (f : α → List Value) (n : Nat) (hf : ∀ a, (f a).length = n) : ∀ (l : List α) (j k : Nat) (a : α), l[j]? = some a → k < n → (l.flatMap f)[n * j + k]? = (f a)[k]?
  | [], j, k, a, h, _ => by simp at h
  | b :: l, 0, k, a, h, hk => by
    simp at h
    subst h
    rw [List.flatMap_cons, Nat.mul_zero, Nat.zero_add, List.getElem?_append_left (by rw [hf]; exact hk)]
  | b :: l, j + 1, k, a, h, hk => by
    rw [List.flatMap_cons, List.getElem?_append_right (by rw [hf, Nat.mul_succ]; omega), hf]
    rw [show n * (j + 1) + k - n = n * j + k from by rw [Nat.mul_succ]; omega]
    exact flat_at f n hf l j k a (by simpa using h) hk
theorem flat_len {α : Type} (f : α → List Value) (n : Nat) (hf : ∀ a, (f a).length = n) (l : List α) : (l.flatMap f).length = l.length * n := by
  induction l with
  | nil => simp
  | cons a l ih => rw [List.flatMap_cons, List.length_append, hf, ih, List.length_cons, Nat.succ_mul]; omega
def pairC (p : Ed × Value) : List Value := edC p.1 p.2
theorem pairC_len (p : Ed × Value) : (pairC p).length = 3 := rfl
/-- edits in a row of the call's own, with lines in rows of its own -/
def OwE (w : World) (B : Nat) (v : Value) (L : List Ed) : Prop :=
  ∃ V : List (Ed × Value), V.map (·.1) = L ∧ w.ownsRow B tE 3 v L.length (V.flatMap pairC) ∧ ∀ p ∈ V, OwT w B tS p.2 p.1.ins
/-- '.slice A n c' reads as these edits -/
def Es (w : World) (A : Option Addr) (c : Nat) (L : List Ed) : Prop :=
  L.length ≤ c ∧ (0 < L.length → ∃ b o, A = some ⟨b, o, none⟩ ∧ b < w.heap.size ∧ ∀ j e, L[j]? = some e →
    ∃ A' c', w.rangeAt b (o + 3 * j) (edC e (.slice A' e.ins.length c')) ∧ Vs w (fun b => b < w.heap.size) A' c' (texts e.ins))
theorem vs_keep {w w' : World} {A : Option Addr} {c : Nat} {vs : List Value} (h : Vs w (fun b => b < w.heap.size) A c vs) (hb : Below w.heap.size w w') : Vs w' (fun b => b < w'.heap.size) A c vs :=
  Lw.Vs.bound (Lw.Vs.below h hb)
theorem Es.keep {w w' : World} {A : Option Addr} {c : Nat} {L : List Ed} (h : Es w A c L) (hb : Below w.heap.size w w') : Es w' A c L :=
  ⟨h.1, fun hn => by
    obtain ⟨b, o, rfl, hlt, he⟩ := h.2 hn
    refine ⟨b, o, rfl, Nat.lt_of_lt_of_le hlt hb.size, fun j e hj => ?_⟩
    obtain ⟨A', c', hr, hv⟩ := he j e hj
    exact ⟨A', c', fun i v hi => (World.cell?_of_block (a := ⟨b, o + 3 * j + i, none⟩) (hb.block b hlt)).trans (hr i v hi), vs_keep hv hb⟩⟩
theorem Es.nil (w : World) (A : Option Addr) (c : Nat) : Es w A c [] := ⟨Nat.zero_le _, fun h => by simp at h⟩
theorem OwE.nil (w : World) (B : Nat) : OwE w B (.slice none 0 0) [] := ⟨[], rfl, World.ownsRow_nil _ _ _ _, fun p h => by cases h⟩
theorem OwE.es {w : World} {B : Nat} {v : Value} {L : List Ed} (h : OwE w B v L) : ∃ A c, v = .slice A L.length c ∧ Es w A c L := by
  obtain ⟨V, rfl, hr, hi⟩ := h
  rcases hr.2 with ⟨rfl, h0⟩ | ⟨g, cap, cur, rfl, hB, hg, hnc, hcm, hs, ht⟩
  · have e : V.map (·.1) = [] := List.eq_nil_of_length_eq_zero h0
    rw [e]
    exact ⟨none, 0, rfl, Es.nil _ _ _⟩
  · refine ⟨_, cap, rfl, hnc, fun _ => ⟨g, 0, rfl, (Array.getElem?_eq_some_iff.1 hg).1, fun j e hj => ?_⟩⟩
    rw [List.getElem?_map] at hj
    cases hp : V[j]? with
    | none => rw [hp] at hj; cases hj
    | some p =>
      rw [hp] at hj
      simp at hj
      subst hj
      have hjl : j < V.length := (List.getElem?_eq_some_iff.1 hp).1
      obtain ⟨A', c', hv, hvs⟩ := (hi p (List.mem_of_getElem? hp)).vs
      refine ⟨A', c', fun k u hk => ?_, Lw.Vs.bound hvs⟩
      have hk3 : k < 3 := (List.getElem?_eq_some_iff.1 hk).1
      have := World.ownsRow.cellAt (cap := cap) hr (3 * j + k) (by rw [List.length_map]; omega)
      rw [Nat.zero_add, this, flat_at pairC 3 pairC_len V j k p hp hk3]
      unfold pairC
      rw [hv]
      exact hk
theorem OwE.move {w w' : World} {B B' : Nat} {v : Value} {L : List Ed} (h : OwE w B v L) (hb : Below B' w w') (hv : w.heap.size ≤ B') : OwE w' B v L := by
  obtain ⟨V, hV, hr, hi⟩ := h
  refine ⟨V, hV, ⟨hr.1, ?_⟩, fun p hp => (hi p hp).below hb fun g hg => Nat.lt_of_lt_of_le (World.ownsRow.lt (hi p hp) g hg).2 hv⟩
  rcases hr.2 with ⟨h1, h2⟩ | ⟨g, cap, cur, hv', h1, h2, h3⟩
  · exact .inl ⟨h1, h2⟩
  · exact .inr ⟨g, cap, cur, hv', h1, (hb.block g (Nat.lt_of_lt_of_le (Array.getElem?_eq_some_iff.1 h2).1 hv)).trans h2, h3⟩
theorem OwE.keep {w w' : World} {B : Nat} {v : Value} {L : List Ed} (h : OwE w B v L) (hb : Below w.heap.size w w') : OwE w' B v L := h.move hb (Nat.le_refl _)
theorem OwE.base {w : World} {B B' : Nat} {v : Value} {L : List Ed} (h : OwE w B v L) (hb : B' ≤ B) : OwE w B' v L := by
  obtain ⟨V, hV, hr, hi⟩ := h
  have key : ∀ {e : TypeId} {size : Nat} {v : Value} {n : Nat} {xs : List Value}, w.ownsRow B e size v n xs → w.ownsRow B' e size v n xs := fun h =>
    ⟨h.1, h.2.imp id fun ⟨g, cap, cur, hv', h1, h2⟩ => ⟨g, cap, cur, hv', Nat.le_trans hb h1, h2⟩⟩
  exact ⟨V, hV, key hr, fun p hp => key (hi p hp)⟩
theorem OwE.put_box {w : World} {B : Nat} {v : Value} {L : List Ed} (h : OwE w B v L) (o : Obj) : OwE (w.alloc o) B v L := h.keep ((Below.refl _ w).alloc (Nat.le_refl _) o)
theorem OwE.drewN {w : World} {B : Nat} {v : Value} {L : List Ed} (h : OwE w B v L) (n : Nat) : OwE (w.drewN n) B v L := h
theorem OwE.drew {w : World} {B : Nat} {v : Value} {L : List Ed} (h : OwE w B v L) : OwE w.drew B v L := h
/-- append of one edit -/
theorem OwE.append {w w' : World} {B : Nat} {v v' : Value} {L : List Ed} {e : Ed} {vi : Value} (V : List (Ed × Value)) (hV : V.map (·.1) = L) (hr : w.ownsRow B tE 3 v L.length (V.flatMap pairC))
    (hi : ∀ p ∈ V, OwT w B tS p.2 p.1.ins) (hvi : OwT w B tS vi e.ins) (h' : w'.ownsRow B tE 3 v' (L.length + 1) (V.flatMap pairC ++ edC e vi)) (hg : w.grownBy w' v.ownBlock) : OwE w' B v' (L ++ [e]) := by
  have key : ∀ (u : Value) (l : Ls), OwT w B tS u l → OwT w' B tS u l := by
    intro u l hu
    refine World.ownsRow.kept hu hg ?_
    rcases hu.2 with ⟨rfl, _⟩ | ⟨g, cap, cur, rfl, _, hgg, _⟩
    · exact .inl rfl
    · right
      intro he
      rcases hr.2 with ⟨rfl, _⟩ | ⟨g', cap', cur', rfl, _, hgg', _⟩
      · cases he
      · simp only [Value.ownBlock, Option.some.injEq] at he
        subst he
        rw [hgg] at hgg'
        simp [tS, tE] at hgg'
  refine ⟨V ++ [(e, vi)], by simp [hV], ?_, fun p hp => ?_⟩
  · rw [List.flatMap_append, List.length_append]
    exact h'
  · rcases List.mem_append.1 hp with hp | hp
    · exact key _ _ (hi p hp)
    · obtain rfl : p = (e, vi) := by simpa using hp
      exact key _ _ hvi
end Go.Proofs.Yteehbpnbephojaa.Df
