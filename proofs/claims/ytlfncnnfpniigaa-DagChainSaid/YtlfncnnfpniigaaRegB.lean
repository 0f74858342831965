/-
  A region that draws its order, walked in an order that the prover gives: what only reads may be taken ahead of what writes.
-/
import Derived.Test.YtlfncnnfpniigaaReg
namespace Go.Proofs.Ytlfncnnfpniigaa.Rg
open Go

section
variable {P : Program} {ops : Array Oper} {Q : Exit → Act → World → Prop} {S : World → Prop}

def wpOrd (P : Program) (ops : Array Oper) (Q : Exit → Act → World → Prop) (S : World → Prop) : List (Nat × Oper × Bool) → Act → World → Prop
  | [], a, w => Q .normal a w
  | (_, o, true) :: rest, a, w => ∃ v, YieldsIf P ops S o v a ∧ S w ∧ wpOrd P ops Q S rest (a.put o.dst v) w
  | (n, o, false) :: rest, a, w => (if Region.wanted o (yielded ops a.tmps) then o.wp P a w (fun a' w' => (sink ops n = false → S w') ∧ wpOrd P ops Q S rest a' w') Q else ((sink ops n = false → S w) ∧ wpOrd P ops Q S rest (a.put o.dst undef) w))

def ordFrom (ops : Array Oper) : Array Bool → List (Nat × Bool) → Bool
  | listed, [] => (Region.ready .any ops listed).isEmpty
  | listed, (n, q) :: rest => decide (n < ops.size) && (if q then (Region.ready .any ops listed).contains n && Region.free .any ops listed n && closed ops listed else Region.ready .any ops listed == [n]) && ordFrom ops (listed.setIfInBounds n true) rest
def ordPlan (ops : Array Oper) (order : List (Nat × Bool)) : Bool := inside ops && Region.noSelect ops && order.length == ops.size && ordFrom ops (Array.replicate ops.size false) order
def pick (l : List Oper) (order : List (Nat × Bool)) : List (Nat × Oper × Bool) := order.map fun x => (x.1, l.getD x.1 default, x.2)

theorem ord_sound {l : List Oper} (he : ops = l.toArray) (hin : inside ops = true) (hsel : ∀ (j : Nat) (o : Oper) cs b, ops[j]? = some o → o.op ≠ .select cs b) (hQ : ∀ c a d v w, Q (.panic c) (Act.put a d v) w → Q (.panic c) a w) :
    ∀ (order : List (Nat × Bool)) (listed : Array Bool) (a : Act) (w : World), ordFrom ops listed order = true →
      wpOrd P ops Q S (pick l order) a w → wpAnyS P ops Q S order.length listed a w
  | [], listed, a, w, hp, h => by
    simp only [ordFrom, List.isEmpty_iff] at hp
    exact ⟨hp, h⟩
  | (n, q) :: rest, listed, a, w, hp, h => by
    simp only [ordFrom, Bool.and_eq_true, decide_eq_true_eq] at hp
    obtain ⟨⟨hlt, hp1⟩, hp3⟩ := hp
    have hi : ops[n]? = some (l.getD n default) := by
      subst he
      have : n < l.length := by simpa using hlt
      simp [List.getElem?_eq_getElem this]
    have e : pick l ((n, q) :: rest) = (n, l.getD n default, q) :: pick l rest := rfl
    rw [e] at h
    cases q with
    | true =>
      simp only [if_true, Bool.and_eq_true] at hp1
      obtain ⟨v, hy, hS, h⟩ := h
      have ih := ord_sound he hin hsel hQ rest _ _ w hp3 h
      exact S_first hi hsel (fun c a w => hQ c a _ _ w) _ _ _ _ (Region.free_spec hi hp1.1.2) (by simpa using hp1.1.1) (closed_spec hp1.2 (inside_spec hin)) hy hS ih
    | false =>
      simp only [Bool.false_eq_true, if_false, beq_iff_eq] at hp1
      refine ⟨fun h0 => (by rw [h0] at hp1; cases hp1), fun i hii => ?_⟩
      rw [hp1] at hii
      obtain rfl := List.mem_singleton.1 hii
      unfold wpOp
      simp only [hi]
      simp only [wpOrd] at h
      have step : ∀ a' w', ((sink ops i = false → S w') ∧ wpOrd P ops Q S (pick l rest) a' w') →
          (sink ops i = false → S w') ∧ wpAnyS P ops Q S rest.length (listed.setIfInBounds i true) a' w' := fun a' w' h' =>
        ⟨h'.1, ord_sound he hin hsel hQ rest _ a' w' hp3 h'.2⟩
      split
      · rename_i hw
        rw [if_pos hw] at h
        exact .inl (Oper.wp_mono step h)
      · rename_i hw
        rw [if_neg hw] at h
        exact step _ _ h

/-- THE REGION, WALKED IN THE ORDER THAT IS GIVEN. -/
theorem wp_region_ord {id : Nat} {l : List Oper} {a : Act} {w : World} (S : World → Prop) (order : List (Nat × Bool)) (hm : P.follows .mixedOrders = true) (hp : ordPlan l.toArray order = true)
    (h : wpOrd P l.toArray (NoPanic Q) S (pick l order) a w.drew) : (Code.region id l.toArray true).wp P Q a w := by
  refine wp_region_noPanic ?_
  simp only [ordPlan, Bool.and_eq_true, beq_iff_eq] at hp
  obtain ⟨⟨⟨h0, h1⟩, h2⟩, h3⟩ := hp
  refine wp_region_any hm (any_of_S (S := S) _ _ _ _ ?_)
  have := ord_sound (P := P) (S := S) rfl h0 (Region.noSelect_spec h1) (fun _ _ _ _ _ h => h) order _ a w.drew h3 h
  rw [h2] at this
  exact this

theorem ord_quiet {n : Nat} {o : Oper} {rest : List (Nat × Oper × Bool)} {a : Act} {w : World} {v : Value} (hg : o.guard = none) (hy : ∀ w', S w' → (execOp a.eval o).run P w' = .ok (.value v) w') (hS : S w)
    (h : wpOrd P ops Q S rest (a.put o.dst v) w) : wpOrd P ops Q S ((n, o, true) :: rest) a w :=
  ⟨v, .inl ⟨by simp [Region.wanted, hg], hy⟩, hS, h⟩
/-- one whose guard says no -/
theorem ord_passed {n : Nat} {o : Oper} {rest : List (Nat × Oper × Bool)} {a : Act} {w : World} (hg : Region.wanted o (yielded ops a.tmps) = false) (hS : S w)
    (h : wpOrd P ops Q S rest (a.put o.dst undef) w) : wpOrd P ops Q S ((n, o, true) :: rest) a w :=
  ⟨undef, .inr ⟨hg, rfl⟩, hS, h⟩
/-- one whose guard says yes -/
theorem ord_guarded {n : Nat} {o : Oper} {rest : List (Nat × Oper × Bool)} {a : Act} {w : World} {v : Value} (hg : Region.wanted o (yielded ops a.tmps) = true) (hy : ∀ w', S w' → (execOp a.eval o).run P w' = .ok (.value v) w') (hS : S w)
    (h : wpOrd P ops Q S rest (a.put o.dst v) w) : wpOrd P ops Q S ((n, o, true) :: rest) a w :=
  ⟨v, .inl ⟨hg, hy⟩, hS, h⟩
theorem ord_loud {n : Nat} {o : Oper} {rest : List (Nat × Oper × Bool)} {a : Act} {w : World} (hg : Region.wanted o (yielded ops a.tmps) = true)
    (h : ∀ K : Act → World → Prop, (∀ a' w', (sink ops n = false → S w') → wpOrd P ops Q S rest a' w' → K a' w') → o.wp P a w K Q) : wpOrd P ops Q S ((n, o, false) :: rest) a w := by
  simp only [wpOrd]
  rw [if_pos hg]
  exact h _ fun a' w' h1 h2 => ⟨h1, h2⟩
open Kt Go.RowKit in
theorem ord_push {n : Nat} {o : Oper} {rest : List (Nat × Oper × Bool)} {a : Act} {w : World} {cs : Array Value} {E : TypeId} (W : World) (hW : w = W.alloc (.cells cs E))
    (hgd : o.guard = none) (s x : Operand) (t : TypeId) (ho : o.op = .call { callee := .builtin .append, args := #[s, x], argTypes := #[t, t] })
    (ht : P.underlying t = some (.slice E)) (hi : (P.info? E).map (fun i => (i.zero, i.size, i.bytes)) = some (some (.int .u8 0), 1, 1))
    (B : Nat) (w0 : World) (v : Value) (l news : List UInt8) (m c : Nat) (hs : a.eval s = v) (hx : a.eval x = .slice (some ⟨W.heap.size, 0, none⟩) m c)
    (hown : Own W B E v l) (hc : cs = (u8s news).toArray) (hm : m = news.length) (hlen : l.length + news.length ≤ 70368744177664) (hb : Below B w0 W) (hbase : B ≤ W.heap.size)
    (h : ∀ v' w', Own w' B E v' (l ++ news) → Below B w0 w' → W.grownBy w' v.ownBlock → (sink ops n = false → S w') ∧ wpOrd P ops Q S rest (a.put o.dst v') w') : wpOrd P ops Q S ((n, o, false) :: rest) a w := by
  subst hW
  exact ord_loud (by simp [Region.wanted, hgd]) fun K hK => wp_push s x t ho ht hi B w0 v l news m c hs hx hown hc hm hlen hb hbase fun v' w' h1 h2 h3 => hK _ _ (h v' w' h1 h2 h3).1 (h v' w' h1 h2 h3).2
theorem ord_nil {a : Act} {w : World} (h : Q .normal a w) : wpOrd P ops (NoPanic Q) S [] a w := NoPanic.normal h
end
end Go.Proofs.Ytlfncnnfpniigaa.Rg
