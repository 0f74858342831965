/-
  A region that draws its order, walked by what holds of what is done so far: whatever the order is.
-/
import Derived.Test.YtplmcpdlommmaaaQReg
namespace Go.Proofs.Ytplmcpdlommmaaa.Rv
open Go Rg

/-- how many aren't done -/
def left : List Bool → Nat
  | [] => 0
  | b :: l => (if b then 0 else 1) + left l
theorem left_set : ∀ (l : List Bool) (i : Nat), l[i]? = some false → left (l.set i true) + 1 = left l
  | [], _, h => by simp at h
  | b :: l, 0, h => by
    simp at h
    subst h
    simp [left]; omega
  | b :: l, i + 1, h => by
    have := left_set l i (by simpa using h)
    simp only [List.set_cons_succ, left]; omega
theorem left_zero : ∀ (l : List Bool) (i : Nat), left l = 0 → i < l.length → l[i]? = some true
  | [], _, _, h => by simp at h
  | b :: l, 0, h, _ => by
    cases b
    · simp only [left, Bool.false_eq_true, if_false] at h; omega
    · rfl
  | b :: l, i + 1, h, hi => by
    rw [List.getElem?_cons_succ]
    simp only [left] at h
    exact left_zero l i (by omega) (by simpa using hi)
theorem left_le : ∀ l : List Bool, left l ≤ l.length
  | [] => Nat.le_refl _
  | b :: l => by
    have := left_le l
    simp only [left, List.length_cons]
    split <;> omega
/-- no operation is guarded, and each waits for earlier ones alone -/
def plain (ops : Array Oper) : Bool := (List.range ops.size).all fun i => ((ops[i]?).map fun o => o.guard.isNone && o.after.all fun e => decide (e.on < i)).getD true
section
variable {P : Program} {ops : Array Oper} {Q : Exit → Act → World → Prop}
theorem plain_spec (hp : plain ops = true) {i : Nat} {o : Oper} (ho : ops[i]? = some o) : o.guard = none ∧ ∀ e ∈ o.after, e.on < i := by
  have hlt : i < ops.size := (Array.getElem?_eq_some_iff.1 ho).1
  have h1 := List.all_eq_true.1 hp i (List.mem_range.2 hlt)
  rw [ho] at h1
  simp only [Option.map_some, Option.getD_some, Bool.and_eq_true, Option.isNone_iff_eq_none] at h1
  exact ⟨h1.1, fun e he => by have := Array.all_eq_true_iff_forall_mem.1 h1.2 e he; simpa using this⟩
theorem get_listed {listed : Array Bool} {i : Nat} (h : i < listed.size) : listed.getD i true = listed.getD i false := by
  simp [h]
theorem all_listed (hp : plain ops = true) {listed : Array Bool} (hs : listed.size = ops.size) (hr : Region.ready .any ops listed = []) : ∀ n i, i < n → i < ops.size → listed.getD i false = true
  | 0, _, h, _ => absurd h (Nat.not_lt_zero _)
  | n + 1, i, h, hi => by
    cases hb : listed.getD i false with
    | true => rfl
    | false =>
      have ho : ops[i]? = some ops[i] := Array.getElem?_eq_getElem hi
      have hm : i ∈ Region.ready .any ops listed := mem_ready.2 ⟨by rw [get_listed (by omega), hb], ops[i], ho, fun e he _ => by
        have hlt := (plain_spec hp ho).2 e he
        exact all_listed hp hs hr n e.on (by omega) (by omega)⟩
      rw [hr] at hm
      cases hm
theorem any_inv (hp : plain ops = true) (I : Array Bool → Act → World → Prop)
    (hstep : ∀ listed a w i o, I listed a w → ops[i]? = some o → listed.getD i true = false → (∀ e ∈ o.after, Region.binds .any e = true → listed.getD e.on false = true) → o.wp P a w (I (listed.setIfInBounds i true)) Q)
    (hend : ∀ listed a w, I listed a w → (∀ i, i < ops.size → listed.getD i false = true) → Q .normal a w) :
    ∀ (fuel : Nat) (listed : Array Bool) (a : Act) (w : World), listed.size = ops.size → left listed.toList ≤ fuel → I listed a w → wpAny P .any ops Q fuel listed a w
  | 0, listed, a, w, hs, hl, hI => by
    have hall : ∀ i, i < ops.size → listed.getD i false = true := fun i hi => by
      have h1 := left_zero listed.toList i (by omega) (by simp; omega)
      have h2 : listed[i]? = some true := by simpa using h1
      simp [h2]
    refine ⟨?_, hend _ _ _ hI hall⟩
    rw [List.eq_nil_iff_forall_not_mem]
    intro i hi
    obtain ⟨h1, o, ho, _⟩ := mem_ready.1 hi
    have hlt : i < ops.size := (Array.getElem?_eq_some_iff.1 ho).1
    have := hall i hlt
    rw [get_listed (by omega), this] at h1
    cases h1
  | fuel + 1, listed, a, w, hs, hl, hI => by
    refine ⟨fun hr => hend _ _ _ hI fun i hi => all_listed hp hs hr (i + 1) i (by omega) hi, fun i hi => ?_⟩
    obtain ⟨h1, o, ho, hdep⟩ := mem_ready.1 hi
    have hlt : i < ops.size := (Array.getElem?_eq_some_iff.1 ho).1
    have h3 := hstep listed a w i o hI ho h1 hdep
    unfold wpOp
    simp only [ho]
    rw [if_pos (by unfold Region.wanted; rw [(plain_spec hp ho).1])]
    refine .inl (Oper.wp_mono (fun a' w' h' => any_inv hp I hstep hend fuel _ a' w' (by simp [hs]) ?_ h') h3)
    have h4 : listed.toList[i]? = some false := by
      have hlt' : i < listed.size := by omega
      simp [hlt'] at h1
      simp [hlt', h1]
    have h5 := left_set _ _ h4
    rw [Array.toList_setIfInBounds]
    omega
/-- THE REGION, WALKED BY WHAT HOLDS. -/
theorem wp_region_inv {id : Nat} {l : List Oper} {a : Act} {w : World} (I : Array Bool → Act → World → Prop) (hm : P.follows .mixedOrders = true) (hp : plain l.toArray = true)
    (hstart : I (Array.replicate l.length false) a w.drew)
    (hstep : ∀ listed a w i o, I listed a w → l[i]? = some o → listed.size = l.length → (∀ k, Rg.waits l.toArray i k = true → listed.getD k false = true) →
      ∀ K : Act → World → Prop, (∀ a' w', I (listed.setIfInBounds i true) a' w' → K a' w') → o.wp P a w K (NoPanic Q))
    (hend : ∀ listed a w, I listed a w → (∀ i, i < l.length → listed.getD i false = true) → Q .normal a w) : (Code.region id l.toArray true).wp P Q a w := by
  refine wp_region_noPanic ?_
  refine wp_region_any hm ?_
  refine any_inv hp (fun listed a w => listed.size = l.length ∧ I listed a w) (fun listed a w i o hI ho _ hdep => ?_) (fun listed a w hI hl => NoPanic.normal (hend listed a w hI.2 (by simpa using hl))) _ _ _ _ (by simp) ?_ ⟨by simp, by simpa using hstart⟩
  · refine hstep listed a w i o hI.2 (by simpa using ho) hI.1 (fun k hk => ?_) _ fun a' w' h => ⟨by simp [hI.1], h⟩
    obtain ⟨e, he, hb, rfl⟩ := Rg.waits_spec ho hk
    exact hdep e he hb
  · have := left_le (Array.replicate l.toArray.size false).toList
    simpa using this
end
end Go.Proofs.Ytplmcpdlommmaaa.Rv
namespace Go.Proofs.Ytplmcpdlommmaaa.Rw
open Go Rg Rv
/-- as wp_region_inv; and that an operation is not done twice -/
theorem wp_region_once {P : Program} {Q : Exit → Act → World → Prop} {id : Nat} {l : List Oper} {a : Act} {w : World} (I : Array Bool → Act → World → Prop) (hm : P.follows .mixedOrders = true) (hp : plain l.toArray = true)
    (hstart : I (Array.replicate l.length false) a w.drew)
    (hstep : ∀ listed a w i o, I listed a w → l[i]? = some o → listed.size = l.length → listed.getD i false = false → (∀ k, Rg.waits l.toArray i k = true → listed.getD k false = true) →
      ∀ K : Act → World → Prop, (∀ a' w', I (listed.setIfInBounds i true) a' w' → K a' w') → o.wp P a w K (NoPanic Q))
    (hend : ∀ listed a w, I listed a w → (∀ i, i < l.length → listed.getD i false = true) → Q .normal a w) : (Code.region id l.toArray true).wp P Q a w := by
  refine wp_region_noPanic ?_
  refine wp_region_any hm ?_
  refine any_inv hp (fun listed a w => listed.size = l.length ∧ I listed a w) (fun listed a w i o hI ho hnl hdep => ?_) (fun listed a w hI hl => NoPanic.normal (hend listed a w hI.2 (by simpa using hl))) _ _ _ _ (by simp) ?_ ⟨by simp, by simpa using hstart⟩
  · refine hstep listed a w i o hI.2 (by simpa using ho) hI.1 (by rw [← get_listed (by rw [hI.1]; have := (Array.getElem?_eq_some_iff.1 ho).1; simpa using this)]; exact hnl) (fun k hk => ?_) _ fun a' w' h => ⟨by simp [hI.1], h⟩
    obtain ⟨e, he, hb, rfl⟩ := Rg.waits_spec ho hk
    exact hdep e he hb
  · have := left_le (Array.replicate l.toArray.size false).toList
    simpa using this
def updV (v : Nat → Value) (k : Nat) (x : Value) : Nat → Value := fun j => if j = k then x else v j
theorem updV_same (v : Nat → Value) (k : Nat) (x : Value) : updV v k x k = x := if_pos rfl
theorem updV_other (v : Nat → Value) (k : Nat) (x : Value) (j : Nat) (h : j ≠ k) : updV v k x j = v j := if_neg h
theorem repV_false (n k : Nat) : (Array.replicate n false).getD k false = false := by
  unfold Array.getD
  split
  · simp
  · rfl
end Go.Proofs.Ytplmcpdlommmaaa.Rw
