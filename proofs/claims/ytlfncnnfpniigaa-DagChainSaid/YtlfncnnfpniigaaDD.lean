/-
  A graph of ids: a chain that is added from behind; the chapter's example.
-/
import Derived.Test.YtlfncnnfpniigaaDC
namespace Go.Proofs.Ytlfncnnfpniigaa.Dq
open Go Tr

def idC (i : Nat) : Bs := [UInt8.ofNat (122 - i)]
/-- the chain of n, of which the last k are added -/
def ch (n : Nat) : Nat → List Nd
  | 0 => []
  | k + 1 => (add (ch n k) (idC (n - 1 - k)) [idC (n - 2 - k)]).1
def stepOk (n k : Nat) : Bool := decide ((add (ch n k) (idC (n - 1 - k)) [idC (n - 2 - k)]).2 = []) && decide (all (ch n (k + 1)) true = []) && decide ((all (ch n (k + 1)) false).length = k + 1) && decide (lacks (ch n (k + 1)) = [idC (n - 2 - k)])
def endOk (n : Nat) : Bool := decide ((add (ch n (n - 1)) (idC 0) []).2 = (List.range n).map idC) &&
  (List.range n).all (fun i => decide (level (add (ch n (n - 1)) (idC 0) []).1 (idC i) = (i : Int))) && decide (all (add (ch n (n - 1)) (idC 0) []).1 false = []) && decide (lacks (add (ch n (n - 1)) (idC 0) []).1 = []) && decide (heads (add (ch n (n - 1)) (idC 0) []).1 = [idC (n - 1)])
theorem steps_ok : ((List.range 13).all fun n => (List.range (n - 1)).all (stepOk n)) = true := by decide +kernel
theorem ends_ok : ((List.range 12).all fun n => endOk (n + 1)) = true := by decide +kernel
theorem step_ok {n k : Nat} (hn : n ≤ 12) (hk : k + 1 < n) : (add (ch n k) (idC (n - 1 - k)) [idC (n - 2 - k)]).2 = [] ∧ all (ch n (k + 1)) true = [] ∧ (all (ch n (k + 1)) false).length = k + 1 ∧ lacks (ch n (k + 1)) = [idC (n - 2 - k)] := by
  have h := List.all_eq_true.1 (List.all_eq_true.1 steps_ok n (List.mem_range.2 (by omega))) k (List.mem_range.2 (by omega))
  unfold stepOk at h
  simpa [and_assoc] using h
theorem end_ok {n : Nat} (h1 : 1 ≤ n) (hn : n ≤ 12) : (add (ch n (n - 1)) (idC 0) []).2 = (List.range n).map idC ∧ (∀ i, i < n → level (add (ch n (n - 1)) (idC 0) []).1 (idC i) = (i : Int)) ∧
    all (add (ch n (n - 1)) (idC 0) []).1 false = [] ∧ lacks (add (ch n (n - 1)) (idC 0) []).1 = [] ∧ heads (add (ch n (n - 1)) (idC 0) []).1 = [idC (n - 1)] := by
  have h := List.all_eq_true.1 ends_ok (n - 1) (List.mem_range.2 (by omega))
  rw [Nat.sub_add_cancel h1] at h
  unfold endOk at h
  simpa [and_assoc] using h
/-- the chapter's example -/
theorem awake_ok : (add [] [98] [[97]]).2 = [] ∧ lacks (add [] [98] [[97]]).1 = [[97]] ∧ (add (add [] [98] [[97]]).1 [97] []).2 = [[97], [98]] ∧ level (add (add [] [98] [[97]]).1 [97] []).1 [98] = 1 ∧ above (add (add [] [98] [[97]]).1 [97] []).1 [97] [98] = true ∧
    heads (add (add [] [98] [[97]]).1 [97] []).1 = [[98]] ∧ (all (add (add [] [98] [[97]]).1 [97] []).1 true).length = 2 := by decide +kernel
end Go.Proofs.Ytlfncnnfpniigaa.Dq
