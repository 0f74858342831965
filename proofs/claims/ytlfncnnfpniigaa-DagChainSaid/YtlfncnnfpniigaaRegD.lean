/-
  A region that draws its order, walked along a tree: where two operations that write or make memory may come next, both ways are walked.
-/
import Derived.Test.YtlfncnnfpniigaaRegB
namespace Go.Proofs.Ytlfncnnfpniigaa.Rd
open Go Rg

/-- leaf: all is done · take n: the quiet operation n is taken ahead · one n: n alone may come · fork n m: n, or m, may come -/
inductive Tree where
  | leaf
  | take (n : Nat) (t : Tree)
  | one (n : Nat) (t : Tree)
  | fork (n : Nat) (t : Tree) (m : Nat) (u : Tree)
section
variable {P : Program} {ops : Array Oper} {Q : Exit → Act → World → Prop} {S : World → Prop}
def stepLoud (P : Program) (ops : Array Oper) (Q : Exit → Act → World → Prop) (S : World → Prop) (n : Nat) (o : Oper) (K : Act → World → Prop) (a : Act) (w : World) : Prop :=
  if Region.wanted o (yielded ops a.tmps) then o.wp P a w (fun a' w' => (sink ops n = false → S w') ∧ K a' w') Q else ((sink ops n = false → S w) ∧ K (a.put o.dst undef) w)
def wpTree (P : Program) (l : List Oper) (Q : Exit → Act → World → Prop) (S : World → Prop) : Tree → Act → World → Prop
  | .leaf, a, w => Q .normal a w
  | .take n t, a, w => ∃ v, YieldsIf P l.toArray S (l.getD n default) v a ∧ S w ∧ wpTree P l Q S t (a.put (l.getD n default).dst v) w
  | .one n t, a, w => stepLoud P l.toArray Q S n (l.getD n default) (wpTree P l Q S t) a w
  | .fork n t m u, a, w => stepLoud P l.toArray Q S n (l.getD n default) (wpTree P l Q S t) a w ∧ stepLoud P l.toArray Q S m (l.getD m default) (wpTree P l Q S u) a w
def treeFrom (ops : Array Oper) : Nat → Array Bool → Tree → Bool
  | 0, listed, .leaf => (Region.ready .any ops listed).isEmpty
  | f + 1, listed, .take n t => decide (n < ops.size) && ((Region.ready .any ops listed).contains n && Region.free .any ops listed n && closed ops listed) && treeFrom ops f (listed.setIfInBounds n true) t
  | f + 1, listed, .one n t => decide (n < ops.size) && (Region.ready .any ops listed == [n]) && treeFrom ops f (listed.setIfInBounds n true) t
  | f + 1, listed, .fork n t m u => decide (n < ops.size) && decide (m < ops.size) && (Region.ready .any ops listed == [n, m]) && treeFrom ops f (listed.setIfInBounds n true) t && treeFrom ops f (listed.setIfInBounds m true) u
  | _, _, _ => false
def treePlan (ops : Array Oper) (t : Tree) : Bool := inside ops && Region.noSelect ops && treeFrom ops ops.size (Array.replicate ops.size false) t

theorem get_of {l : List Oper} {n : Nat} (h : n < l.toArray.size) : l.toArray[n]? = some (l.getD n default) := by
  have : n < l.length := by simpa using h
  simp [List.getElem?_eq_getElem this]
theorem loud_sound {l : List Oper} {n f : Nat} {t : Tree} {listed : Array Bool} {a : Act} {w : World} (hn : n < l.toArray.size)
    (ih : ∀ a' w', wpTree P l Q S t a' w' → Rg.wpAnyS P l.toArray Q S f (listed.setIfInBounds n true) a' w')
    (h : stepLoud P l.toArray Q S n (l.getD n default) (wpTree P l Q S t) a w) :
    wpOp P l.toArray Q n (fun a' w' => (sink l.toArray n = false → S w') ∧ Rg.wpAnyS P l.toArray Q S f (listed.setIfInBounds n true) a' w') a w := by
  unfold wpOp
  simp only [get_of hn]
  unfold stepLoud at h
  split
  · rename_i hw
    rw [if_pos hw] at h
    exact .inl (Oper.wp_mono (fun a' w' h' => ⟨h'.1, ih a' w' h'.2⟩) h)
  · rename_i hw
    rw [if_neg hw] at h
    exact ⟨h.1, ih _ _ h.2⟩
theorem tree_sound {l : List Oper} (hin : inside l.toArray = true) (hsel : ∀ (j : Nat) (o : Oper) cs b, l.toArray[j]? = some o → o.op ≠ .select cs b) (hQ : ∀ c a d v w, Q (.panic c) (Act.put a d v) w → Q (.panic c) a w) :
    ∀ (f : Nat) (t : Tree) (listed : Array Bool) (a : Act) (w : World), treeFrom l.toArray f listed t = true → wpTree P l Q S t a w → Rg.wpAnyS P l.toArray Q S f listed a w
  | 0, .leaf, listed, a, w, hp, h => by
    simp only [treeFrom, List.isEmpty_iff] at hp
    exact ⟨hp, h⟩
  | f + 1, .take n t, listed, a, w, hp, h => by
    simp only [treeFrom, Bool.and_eq_true, decide_eq_true_eq] at hp
    obtain ⟨⟨hlt, hp1⟩, hp3⟩ := hp
    obtain ⟨v, hy, hS, h⟩ := h
    have ih := tree_sound hin hsel hQ f t _ _ w hp3 h
    exact S_first (get_of hlt) hsel (fun c a w => hQ c a _ _ w) _ _ _ _ (Region.free_spec (get_of hlt) hp1.1.2) (by simpa using hp1.1.1) (closed_spec hp1.2 (inside_spec hin)) hy hS ih
  | f + 1, .one n t, listed, a, w, hp, h => by
    simp only [treeFrom, Bool.and_eq_true, decide_eq_true_eq, beq_iff_eq] at hp
    obtain ⟨⟨hlt, hp1⟩, hp3⟩ := hp
    refine ⟨fun h0 => (by rw [h0] at hp1; cases hp1), fun i hii => ?_⟩
    rw [hp1] at hii
    obtain rfl := List.mem_singleton.1 hii
    exact loud_sound hlt (fun a' w' h' => tree_sound hin hsel hQ f t _ a' w' hp3 h') h
  | f + 1, .fork n t m u, listed, a, w, hp, h => by
    simp only [treeFrom, Bool.and_eq_true, decide_eq_true_eq, beq_iff_eq] at hp
    obtain ⟨⟨⟨⟨hn, hm⟩, hp1⟩, hp3⟩, hp4⟩ := hp
    refine ⟨fun h0 => (by rw [h0] at hp1; cases hp1), fun i hii => ?_⟩
    rw [hp1] at hii
    rcases List.mem_cons.1 hii with rfl | hii
    · exact loud_sound hn (fun a' w' h' => tree_sound hin hsel hQ f t _ a' w' hp3 h') h.1
    · obtain rfl := List.mem_singleton.1 hii
      exact loud_sound hm (fun a' w' h' => tree_sound hin hsel hQ f u _ a' w' hp4 h') h.2
  | 0, .take _ _, _, _, _, hp, _ => by simp [treeFrom] at hp
  | 0, .one _ _, _, _, _, hp, _ => by simp [treeFrom] at hp
  | 0, .fork _ _ _ _, _, _, _, hp, _ => by simp [treeFrom] at hp
  | _ + 1, .leaf, _, _, _, hp, _ => by simp [treeFrom] at hp

/-- THE REGION, WALKED ALONG THE TREE. -/
theorem wp_region_tree {id : Nat} {l : List Oper} {a : Act} {w : World} (S : World → Prop) (t : Tree) (hm : P.follows .mixedOrders = true) (hp : treePlan l.toArray t = true)
    (h : wpTree P l (NoPanic Q) S t a w.drew) : (Code.region id l.toArray true).wp P Q a w := by
  refine wp_region_noPanic ?_
  simp only [treePlan, Bool.and_eq_true] at hp
  obtain ⟨⟨h0, h1⟩, h3⟩ := hp
  refine wp_region_any hm (any_of_S (S := S) _ _ _ _ ?_)
  exact tree_sound (P := P) (S := S) h0 (Region.noSelect_spec h1) (fun _ _ _ _ _ h => h) _ t _ a w.drew h3 h
theorem tree_quiet {l : List Oper} {n : Nat} {o : Oper} {t : Tree} {a : Act} {w : World} {v : Value} (ho : l.getD n default = o) (hg : o.guard = none) (hy : ∀ w', S w' → (execOp a.eval o).run P w' = .ok (.value v) w') (hS : S w)
    (h : wpTree P l Q S t (a.put o.dst v) w) : wpTree P l Q S (.take n t) a w := by
  subst ho
  exact ⟨v, .inl ⟨by unfold Region.wanted; rw [hg], hy⟩, hS, h⟩
theorem loud_of {l : List Oper} {n : Nat} {o : Oper} {t : Tree} {a : Act} {w : World} (ho : l.getD n default = o) (hg : Region.wanted o (yielded l.toArray a.tmps) = true)
    (h : ∀ K : Act → World → Prop, (∀ a' w', (sink l.toArray n = false → S w') → wpTree P l Q S t a' w' → K a' w') → o.wp P a w K Q) : stepLoud P l.toArray Q S n (l.getD n default) (wpTree P l Q S t) a w := by
  subst ho
  unfold stepLoud
  rw [if_pos hg]
  exact h _ fun a' w' h1 h2 => ⟨h1, h2⟩
theorem tree_one {l : List Oper} {n : Nat} {o : Oper} {t : Tree} {a : Act} {w : World} (ho : l.getD n default = o) (hg : Region.wanted o (yielded l.toArray a.tmps) = true)
    (h : ∀ K : Act → World → Prop, (∀ a' w', (sink l.toArray n = false → S w') → wpTree P l Q S t a' w' → K a' w') → o.wp P a w K Q) : wpTree P l Q S (.one n t) a w := loud_of ho hg h
theorem tree_fork {l : List Oper} {n m : Nat} {o o' : Oper} {t u : Tree} {a : Act} {w : World} (ho : l.getD n default = o) (hg : Region.wanted o (yielded l.toArray a.tmps) = true) (ho' : l.getD m default = o') (hg' : Region.wanted o' (yielded l.toArray a.tmps) = true)
    (h : ∀ K : Act → World → Prop, (∀ a' w', (sink l.toArray n = false → S w') → wpTree P l Q S t a' w' → K a' w') → o.wp P a w K Q)
    (h' : ∀ K : Act → World → Prop, (∀ a' w', (sink l.toArray m = false → S w') → wpTree P l Q S u a' w' → K a' w') → o'.wp P a w K Q) : wpTree P l Q S (.fork n t m u) a w :=
  ⟨loud_of ho hg h, loud_of ho' hg' h'⟩
theorem tree_leaf {l : List Oper} {a : Act} {w : World} (h : Q .normal a w) : wpTree P l (NoPanic Q) S .leaf a w := NoPanic.normal h
end
end Go.Proofs.Ytlfncnnfpniigaa.Rd
