/-
  A region that draws its order, of which no operation is done twice.
-/
import Derived.Test.YtlfncnnfpniigaaRegF
namespace Go.Proofs.Ytlfncnnfpniigaa.Rw
open Go Rg Rv
/-- as wp_region_inv; and that an operation is not done twice -/
theorem wp_region_once {P : Program} {Q : Exit → Act → World → Prop} {id : Nat} {l : List Oper} {a : Act} {w : World} (I : Array Bool → Act → World → Prop) (hm : P.follows .mixedOrders = true) (hp : plain l.toArray = true)
    (hstart : I (Array.replicate l.length false) a w.drew)
    (hstep : ∀ listed a w i o, I listed a w → l[i]? = some o → listed.size = l.length → listed.getD i false = false → (∀ k, Rg.waits l.toArray i k = true → listed.getD k false = true) →
      ∀ K : Act → World → Prop, (∀ a' w', I (listed.setIfInBounds i true) a' w' → K a' w') → o.wp P a w K (NoPanic Q))
    (hend : ∀ listed a w, I listed a w → (∀ i, i < l.length → listed.getD i false = true) → Q .normal a w) : (Code.region id l.toArray true).wp P Q a w := by
  refine wp_region_noPanic ?_
  refine wp_region_any hm ?_
  refine any_inv hp (fun listed a w => listed.size = l.length ∧ I listed a w) (fun listed a w i o hI ho hnl hdep => ?_) (fun listed a w hI hl => NoPanic.normal (hend listed a w hI.2 (by simpa using hl))) _ _ _ _ (by simp) ?_ ⟨by simp, by simpa using hstart⟩
  · refine hstep listed a w i o hI.2 (by simpa using ho) hI.1 (by rw [← get_listed (by rw [hI.1]; have := (Array.getElem?_eq_some_iff.1 ho).1; simpa using this)]; exact hnl) (fun k hk => ?_) _ fun a' w' h => ⟨by simp [hI.1], h⟩
    obtain ⟨e, he, hb, rfl⟩ := Rg.waits_spec ho hk
    exact hdep e he hb
  · have := left_le (Array.replicate l.toArray.size false).toList
    simpa using this
def updV (v : Nat → Value) (k : Nat) (x : Value) : Nat → Value := fun j => if j = k then x else v j
theorem updV_same (v : Nat → Value) (k : Nat) (x : Value) : updV v k x k = x := if_pos rfl
theorem updV_other (v : Nat → Value) (k : Nat) (x : Value) (j : Nat) (h : j ≠ k) : updV v k x j = v j := if_neg h
theorem repV_false (n k : Nat) : (Array.replicate n false).getD k false = false := by
  unfold Array.getD
  split
  · simp
  · rfl
end Go.Proofs.Ytlfncnnfpniigaa.Rw
