/-
  A number's form, by sevens: on lists of bytes alone; and the number that stands first, or why there is none.
-/
import Derived.Test.YtahcokfoifdlmaaGreatDoorKit
import Derived.OrdersHeld
import Derived.Tactics
import Derived.Deep.MidRow
import Derived.Deep.RegionHeld3
import Derived.WalkLawsBesides
import Derived.Test.YtahcokfoifdlmaaGreatDoorChecked
import Derived.Lib.AppendZerosOnto
namespace Go.Proofs.YtahcokfoifdlmaaGreatDoor.Wr
open Go Go.RowKit Kt

def form (n : Nat) : List UInt8 := if n < 128 then [UInt8.ofNat n] else UInt8.ofNat (n % 128 + 128) :: form (n / 128)
termination_by n
decreasing_by omega
theorem form_lt {n : Nat} (h : n < 128) : form n = [UInt8.ofNat n] := by rw [form, if_pos h]
theorem form_ge {n : Nat} (h : ¬ n < 128) : form n = UInt8.ofNat (n % 128 + 128) :: form (n / 128) := by rw [form, if_neg h]
def val : List UInt8 → Nat
  | [] => 0
  | b :: r => b.toNat % 128 + 128 * val r
/-- how many bytes of 128 or more stand first -/
def lead : List UInt8 → Nat
  | [] => 0
  | b :: r => if 128 ≤ b.toNat then lead r + 1 else 0
theorem lead_le (l : List UInt8) : lead l ≤ l.length := by
  induction l with
  | nil => simp [lead]
  | cons b r ih => simp only [lead, List.length_cons]; split <;> omega
theorem lead_at (l : List UInt8) : ∀ i, i < lead l → 128 ≤ (l.getD i 0).toNat := by
  induction l with
  | nil => intro i h; simp [lead] at h
  | cons b r ih =>
    intro i h
    simp only [lead] at h
    split at h
    · cases i with
      | zero => simpa
      | succ i => simpa using ih i (by omega)
    · omega
theorem lead_stop (l : List UInt8) (h : lead l < l.length) : (l.getD (lead l) 0).toNat < 128 := by
  induction l with
  | nil => simp at h
  | cons b r ih =>
    simp only [lead] at h ⊢
    split
    · rename_i hb
      rw [if_pos hb, List.length_cons] at h
      simpa using ih (by omega)
    · simp; omega
theorem lead_of (l : List UInt8) : ∀ k, k < l.length → (∀ i, i < k → 128 ≤ (l.getD i 0).toNat) → (l.getD k 0).toNat < 128 → lead l = k := by
  induction l with
  | nil => intro k h; simp at h
  | cons b r ih =>
    intro k h h1 h2
    cases k with
    | zero => simp at h2; simp [lead]; omega
    | succ k =>
      have hb := h1 0 (by omega)
      simp at hb
      rw [lead, if_pos hb, ih k (by simpa using h) (fun i hi => by simpa using h1 (i + 1) (by omega)) (by simpa using h2)]
theorem lead_all (l : List UInt8) (h : ∀ i, i < l.length → 128 ≤ (l.getD i 0).toNat) : lead l = l.length := by
  rcases Nat.lt_or_ge (lead l) l.length with h1 | h1
  · have := lead_stop l h1
    have := h _ h1
    omega
  · have := lead_le l
    omega
/-- the number, how many bytes, why not -/
def numOf (bs : List UInt8) : Nat × Nat × Nat :=
  if 10 ≤ lead bs then (0, 0, 3)
  else if lead bs = bs.length then (0, 0, 2)
  else if (0 < lead bs ∧ (bs.getD (lead bs) 0).toNat = 0) ∨ (lead bs = 9 ∧ 1 < (bs.getD (lead bs) 0).toNat) then (0, 0, 3)
  else (val (bs.take (lead bs + 1)), lead bs + 1, 0)

theorem form_ne (n : Nat) : form n ≠ [] := by
  by_cases h : n < 128
  · rw [form_lt h]; simp
  · rw [form_ge h]; simp
theorem form_pos (n : Nat) : 0 < (form n).length := List.length_pos_iff.2 (form_ne n)
theorem form_short (n : Nat) : ∀ k, n < 128 ^ k → 0 < k → (form n).length ≤ k := by
  induction n using Nat.strongRecOn with
  | _ n ih =>
    intro k hn hk
    by_cases h : n < 128
    · rw [form_lt h]; simp; omega
    · rw [form_ge h, List.length_cons]
      cases k with
      | zero => omega
      | succ k =>
        have hk0 : 0 < k := by
          rcases Nat.eq_zero_or_pos k with rfl | hk0
          · simp at hn; omega
          · exact hk0
        have := ih (n / 128) (by omega) k (by rw [Nat.pow_succ] at hn; omega) hk0
        omega
theorem val_append (l r : List UInt8) : val (l ++ r) = val l + 128 ^ l.length * val r := by
  induction l with
  | nil => simp [val]
  | cons b l ih =>
    rw [List.cons_append, val, val, ih, List.length_cons, Nat.pow_succ, Nat.mul_add]
    rw [Nat.mul_comm (128 ^ l.length) 128, Nat.mul_assoc, Nat.add_assoc]
theorem val_lt (l : List UInt8) : val l < 128 ^ l.length := by
  induction l with
  | nil => simp [val]
  | cons b l ih =>
    rw [val, List.length_cons, Nat.pow_succ]
    have := Nat.mod_lt b.toNat (show 0 < 128 by omega)
    omega
/-- digits of which all but the last one are 128 or more, and the last one isn't 0, or is the only one, are a form -/
theorem form_val : ∀ l : List UInt8, lead l + 1 = l.length → (0 < lead l → (l.getD (lead l) 0).toNat ≠ 0) → form (val l) = l
  | [], h, _ => by simp [lead] at h
  | [b], h, _ => by
    have hb : b.toNat < 128 := by
      by_cases hb : 128 ≤ b.toNat
      · simp [lead, hb] at h
      · omega
    rw [val, val, form_lt (by omega), Nat.mod_eq_of_lt hb]
    simp
  | b :: c :: r, h, h0 => by
    have hb : 128 ≤ b.toNat := by
      by_cases hb : 128 ≤ b.toNat
      · exact hb
      · simp [lead, hb] at h
    have e : lead (b :: c :: r) = lead (c :: r) + 1 := by rw [lead, if_pos hb]
    rw [e] at h h0
    have h1 : lead (c :: r) + 1 = (c :: r).length := by rw [List.length_cons] at h; omega
    have hn := h0 (by omega)
    rw [List.getD_cons_succ] at hn
    have ih := form_val (c :: r) h1 (fun _ => hn)
    have hpos : 0 < val (c :: r) := by
      rcases Nat.eq_zero_or_pos (val (c :: r)) with hz | hz
      · exfalso
        rw [hz, form_lt (by omega)] at ih
        rw [← ih] at hn
        revert hn
        decide
      · exact hz
    have hb8 := toNat_lt b
    rw [val, form_ge (by omega)]
    rw [show (b.toNat % 128 + 128 * val (c :: r)) / 128 = val (c :: r) from by omega, show (b.toNat % 128 + 128 * val (c :: r)) % 128 + 128 = b.toNat from by omega, ih]
    simp
theorem take_getD (l : List UInt8) (k i : Nat) (h : i < k) : (l.take k).getD i 0 = l.getD i 0 := by
  simp [List.getD_eq_getElem?_getD, h]
theorem lead_take (bs : List UInt8) (h : lead bs < bs.length) : lead (bs.take (lead bs + 1)) = lead bs :=
  lead_of _ _ (by rw [List.length_take]; omega) (fun i hi => by rw [take_getD _ _ _ (by omega)]; exact lead_at bs i hi) (by rw [take_getD _ _ _ (by omega)]; exact lead_stop bs h)

theorem numOf_fail (bs : List UInt8) (n k e : Nat) (h : numOf bs = (n, k, e)) (he : e ≠ 0) : n = 0 ∧ k = 0 ∧ (e = 2 ∨ e = 3) := by
  unfold numOf at h
  split at h
  · cases h; exact ⟨rfl, rfl, .inr rfl⟩
  · split at h
    · cases h; exact ⟨rfl, rfl, .inl rfl⟩
    · split at h
      · cases h; exact ⟨rfl, rfl, .inr rfl⟩
      · cases h; exact absurd rfl he
/-- what is read as a number is a form -/
theorem numOf_ok (bs : List UInt8) (n k : Nat) (h : numOf bs = (n, k, 0)) : n < 18446744073709551616 ∧ 1 ≤ k ∧ k ≤ 10 ∧ k ≤ bs.length ∧ form n = bs.take k := by
  unfold numOf at h
  split at h
  · cases h
  · rename_i h1
    split at h
    · cases h
    · rename_i h2
      split at h
      · cases h
      · rename_i h3
        have hle := lead_le bs
        have hlt : lead bs < bs.length := by omega
        have hk : k = lead bs + 1 := by cases h; rfl
        have hn : n = val (bs.take k) := by cases h; rfl
        have hl : (bs.take k).length = k := by rw [List.length_take]; omega
        have hlead : lead (bs.take k) + 1 = (bs.take k).length := by rw [hl, hk, lead_take bs hlt]
        have hf : form n = bs.take k := by
          rw [hn]
          refine form_val _ hlead fun hp => ?_
          rw [hk, lead_take bs hlt] at hp ⊢
          rw [take_getD _ _ _ (by omega)]
          omega
        refine ⟨?_, by omega, by omega, by omega, hf⟩
        rw [hn, hk, List.take_succ_eq_append_getElem hlt, val_append]
        have hv := val_lt (bs.take (lead bs))
        have hlen : (bs.take (lead bs)).length = lead bs := by rw [List.length_take]; omega
        rw [hlen] at hv ⊢
        have hx : bs[lead bs] = bs.getD (lead bs) 0 := by simp [List.getElem?_eq_getElem hlt]
        have hs := lead_stop bs hlt
        rw [hx]
        simp only [val]
        generalize (bs.getD (lead bs) 0).toNat = x at *
        generalize val (bs.take (lead bs)) = v at *
        rcases Nat.lt_or_ge (lead bs) 9 with h9 | h9
        · have hp : 128 ^ (lead bs) ≤ 128 ^ 8 := Nat.pow_le_pow_right (by omega) (by omega)
          have : 128 ^ (lead bs) * (x % 128 + 128 * 0) ≤ 128 ^ 8 * 127 := Nat.mul_le_mul hp (by omega)
          omega
        · have e9 : lead bs = 9 := by omega
          rw [e9] at hv ⊢
          have : x ≤ 1 := by omega
          have : 128 ^ 9 * (x % 128 + 128 * 0) ≤ 128 ^ 9 * 1 := Nat.mul_le_mul_left _ (by omega)
          omega
/-- the text, where it ends, why not -/
def textOf (bs : List UInt8) (most : Int) : List UInt8 × Nat × Nat :=
  if (numOf bs).2.2 ≠ 0 then ([], 0, (numOf bs).2.2)
  else if (max most 0).toNat < (numOf bs).1 then ([], 0, 4)
  else if bs.length - (numOf bs).2.1 < (numOf bs).1 then ([], 0, 2)
  else ((bs.drop (numOf bs).2.1).take (numOf bs).1, (numOf bs).2.1 + (numOf bs).1, 0)
end Go.Proofs.YtahcokfoifdlmaaGreatDoor.Wr
namespace Go.Proofs.YtahcokfoifdlmaaGreatDoor.Rg
open Go

section
variable {P : Program} {ops : Array Oper} {Q : Exit → Act → World → Prop} {S : World → Prop}

/-- does operation j wait for k? -/
def waits (ops : Array Oper) (j k : Nat) : Bool := ((ops[j]?).map fun o => o.after.any fun e => Region.binds .any e && e.on == k).getD false
/-- does operation j wait for all others, or for one that does? -/
def sink (ops : Array Oper) (j : Nat) : Bool :=
  (List.range ops.size).all fun k => k == j || waits ops j k || (List.range ops.size).any fun i => waits ops j i && waits ops i k
/-- is what the listed ones wait for listed too? -/
def closed (ops : Array Oper) (listed : Array Bool) : Bool := (List.range ops.size).all fun j => !listed.getD j false || (List.range ops.size).all fun k => !waits ops j k || listed.getD k false
def Closed (ops : Array Oper) (listed : Array Bool) : Prop := ∀ j k, waits ops j k = true → listed.getD j false = true → listed.getD k false = true
theorem waits_spec {j k : Nat} {oj : Oper} (hj : ops[j]? = some oj) (h : waits ops j k = true) : ∃ e ∈ oj.after, Region.binds .any e = true ∧ e.on = k := by
  simp only [waits, hj, Option.map_some, Option.getD_some] at h
  obtain ⟨e, he, hb⟩ := Array.any_eq_true'.1 h
  simp only [Bool.and_eq_true, beq_iff_eq] at hb
  exact ⟨e, he, hb.1, hb.2⟩
theorem waits_lt {j k : Nat} (h : waits ops j k = true) : j < ops.size := by
  rcases Nat.lt_or_ge j ops.size with h' | h'
  · exact h'
  · simp [waits, Array.getElem?_eq_none h'] at h
theorem closed_spec {listed : Array Bool} (h : closed ops listed = true) (hk : ∀ j k, waits ops j k = true → k < ops.size) : Closed ops listed := by
  intro j k hw hl
  have h1 := List.all_eq_true.1 h j (List.mem_range.2 (waits_lt hw))
  simp only [hl, Bool.not_true, Bool.false_or] at h1
  have h2 := List.all_eq_true.1 h1 k (List.mem_range.2 (hk j k hw))
  simpa [hw] using h2
theorem closed_set {listed : Array Bool} {j : Nat} (h : Closed ops listed) (hj : j ∈ Region.ready .any ops listed) : Closed ops (listed.setIfInBounds j true) := by
  intro a b hw hl
  obtain ⟨_, oj, hoj, hall⟩ := mem_ready.1 hj
  by_cases e : j = a
  · subst e
    obtain ⟨e, he, hb, rfl⟩ := waits_spec hoj hw
    exact getD_set_true (hall e he hb)
  · rw [getD_set_ne false e] at hl
    exact getD_set_true (h a b hw hl)
theorem sink_spec {j k : Nat} {listed : Array Bool} (hc : Closed ops listed) (hj : j ∈ Region.ready .any ops listed) (h : sink ops j = true) (hk : k < ops.size) (hne : k ≠ j) : listed.getD k false = true := by
  obtain ⟨_, oj, hoj, hall⟩ := mem_ready.1 hj
  have h1 := List.all_eq_true.1 h k (List.mem_range.2 hk)
  simp only [Bool.or_eq_true, beq_iff_eq] at h1
  rcases h1 with (h1 | h1) | h1
  · exact absurd h1 hne
  · obtain ⟨e, he, hb, rfl⟩ := waits_spec hoj h1
    exact hall e he hb
  · obtain ⟨i, _, hi⟩ := List.any_eq_true.1 h1
    simp only [Bool.and_eq_true] at hi
    obtain ⟨e, he, hb, rfl⟩ := waits_spec hoj hi.1
    exact hc _ _ hi.2 (hall e he hb)

def wpAnyS (P : Program) (ops : Array Oper) (Q : Exit → Act → World → Prop) (S : World → Prop) : Nat → Array Bool → Act → World → Prop
  | 0, listed, a, w => Region.ready .any ops listed = [] ∧ Q .normal a w
  | fuel + 1, listed, a, w =>
    (Region.ready .any ops listed = [] → Q .normal a w) ∧
    ∀ i ∈ Region.ready .any ops listed, wpOp P ops Q i (fun a' w' => (sink ops i = false → S w') ∧ wpAnyS P ops Q S fuel (listed.setIfInBounds i true) a' w') a w

theorem any_of_S : ∀ (fuel : Nat) (listed : Array Bool) (a : Act) (w : World), wpAnyS P ops Q S fuel listed a w → wpAny P .any ops Q fuel listed a w
  | 0, _, _, _, h => h
  | fuel + 1, _, _, _, h => ⟨h.1, fun i hi => wpOp_mono (fun a' w' h' => any_of_S fuel _ a' w' h'.2) (h.2 i hi)⟩

theorem S_first {i : Nat} {oi : Oper} {v : Value} (hi : ops[i]? = some oi) (hsel : ∀ (j : Nat) (o : Oper) cs b, ops[j]? = some o → o.op ≠ .select cs b)
    (hQ : ∀ c a w, Q (.panic c) (a.put oi.dst v) w → Q (.panic c) a w) :
    ∀ (fuel : Nat) (listed : Array Bool) (a : Act) (w : World),
      (∀ j oj, ops[j]? = some oj → j ≠ i → listed.getD j true = false → (∀ e ∈ oj.after, Region.binds .any e = true → e.on ≠ i) → oi.apart ops oj = true) →
      i ∈ Region.ready .any ops listed → Closed ops listed → YieldsIf P ops S oi v a → S w →
      wpAnyS P ops Q S fuel (listed.setIfInBounds i true) (a.put oi.dst v) w → wpAnyS P ops Q S (fuel + 1) listed a w := by
  intro fuel
  induction fuel with
  | zero =>
    intro listed a w _ hr _ hy hS H
    refine ⟨fun h => (by rw [h] at hr; cases hr), fun j hj => ?_⟩
    by_cases hji : j = i
    · subst hji; exact hy.wpOp hi hS ⟨fun _ => hS, H⟩
    · have := ready_mono hj hji
      rw [H.1] at this
      cases this
  | succ fuel ih =>
    intro listed a w hfree hr hcl hy hS H
    refine ⟨fun h => (by rw [h] at hr; cases hr), fun j hj => ?_⟩
    by_cases hji : j = i
    · subst hji; exact hy.wpOp hi hS ⟨fun _ => hS, H⟩
    · have h1 := H.2 j (ready_mono hj hji)
      obtain ⟨hjun, oj, hoj, hall⟩ := mem_ready.1 hj
      have hnot : ∀ e ∈ oj.after, Region.binds .any e = true → e.on ≠ i := fun e he hb heq => by
        have h1 := hall e he hb
        have h0 := (mem_ready.1 hr).1
        rw [heq] at h1
        rcases Nat.lt_or_ge i listed.size with h' | h'
        · simp [h'] at h0 h1; rw [h0] at h1; cases h1
        · simp [Array.getElem?_eq_none h'] at h1
      have hsink : sink ops j = false := by
        cases hs : sink ops j with
        | false => rfl
        | true =>
          have h0 := (mem_ready.1 hr).1
          have h1 := sink_spec hcl hj hs (Array.getElem?_eq_some_iff.1 hi).1 (Ne.symm hji)
          rcases Nat.lt_or_ge i listed.size with h' | h'
          · simp [h'] at h0 h1; rw [h0] at h1; cases h1
          · simp [Array.getElem?_eq_none h'] at h1
      have h2 := wpOp_putIf hoj (hfree j oj hoj hji hjun hnot) (fun cs b => hsel i oi cs b hi) (fun cs b => hsel j oj cs b hoj) hQ hy h1
      have hfree' : ∀ k ok, ops[k]? = some ok → k ≠ i → (listed.setIfInBounds j true).getD k true = false →
          (∀ e ∈ ok.after, Region.binds .any e = true → e.on ≠ i) → oi.apart ops ok = true := fun k ok hk hki hun hno => by
        refine hfree k ok hk hki ?_ hno
        by_cases hjk : j = k
        · subst hjk; exact hjun
        · rw [getD_set_ne true hjk] at hun; exact hun
      refine wpOp_mono (fun a' w' h3 => ⟨fun _ => h3.2.1 hsink, ih (listed.setIfInBounds j true) a' w' hfree' (ready_mono hr (Ne.symm hji)) (closed_set hcl hj) h3.1 (h3.2.1 hsink) ?_⟩) h2
      rw [Array.setIfInBounds_comm _ _ hji]
      exact h3.2.2

/-- the first n of m are listed -/
def upTo (n m : Nat) : Array Bool := ((List.range m).map fun i => decide (i < n)).toArray

/-- the text's order: each operation with whether it only reads -/
def wpTxt (P : Program) (ops : Array Oper) (Q : Exit → Act → World → Prop) (S : World → Prop) : Nat → List (Oper × Bool) → Act → World → Prop
  | _, [], a, w => Q .normal a w
  | n, (o, true) :: rest, a, w => ∃ v, YieldsIf P ops S o v a ∧ S w ∧ wpTxt P ops Q S (n + 1) rest (a.put o.dst v) w
  | n, (o, false) :: rest, a, w => (if Region.wanted o (yielded ops a.tmps) then o.wp P a w (fun a' w' => (sink ops n = false → S w') ∧ wpTxt P ops Q S (n + 1) rest a' w') Q else ((sink ops n = false → S w) ∧ wpTxt P ops Q S (n + 1) rest (a.put o.dst undef) w))

/-- may the operations be walked so? (closed: asked of the kernel) -/
def planFrom (ops : Array Oper) : Nat → List Bool → Bool
  | n, [] => n == ops.size && (Region.ready .any ops (upTo n ops.size)).isEmpty
  | n, q :: rest => (if q then (Region.ready .any ops (upTo n ops.size)).contains n && Region.free .any ops (upTo n ops.size) n && closed ops (upTo n ops.size) else Region.ready .any ops (upTo n ops.size) == [n]) &&
      (upTo n ops.size).setIfInBounds n true == upTo (n + 1) ops.size && planFrom ops (n + 1) rest
def inside (ops : Array Oper) : Bool := ops.all fun o => o.after.all fun e => e.on < ops.size
theorem inside_spec (h : inside ops = true) (j k : Nat) (hw : waits ops j k = true) : k < ops.size := by
  have hj : ops[j]? = some (ops[j]'(waits_lt hw)) := Array.getElem?_eq_getElem _
  obtain ⟨e, he, _, rfl⟩ := waits_spec hj hw
  have h1 := Array.all_eq_true_iff_forall_mem.1 h _ (Array.getElem_mem (waits_lt hw))
  have h2 := Array.all_eq_true_iff_forall_mem.1 h1 e he
  simpa using h2
def plan (ops : Array Oper) (flags : List Bool) : Bool := inside ops && Region.noSelect ops && flags.length == ops.size && planFrom ops 0 flags

theorem txt_sound (hin : inside ops = true) (hsel : ∀ (j : Nat) (o : Oper) cs b, ops[j]? = some o → o.op ≠ .select cs b) (hQ : ∀ c a d v w, Q (.panic c) (Act.put a d v) w → Q (.panic c) a w) :
    ∀ (flags : List Bool) (n : Nat) (a : Act) (w : World), n + flags.length = ops.size → planFrom ops n flags = true →
      wpTxt P ops Q S n ((ops.toList.drop n).zip flags) a w → wpAnyS P ops Q S flags.length (upTo n ops.size) a w
  | [], n, a, w, hn, hp, h => by
    simp only [planFrom, Bool.and_eq_true, beq_iff_eq, List.isEmpty_iff] at hp
    have e : ops.toList.drop n = [] := List.drop_of_length_le (by simp at hn ⊢; omega)
    rw [e] at h
    exact ⟨hp.2, h⟩
  | q :: rest, n, a, w, hn, hp, h => by
    simp only [planFrom, Bool.and_eq_true, beq_iff_eq] at hp
    obtain ⟨⟨hp1, hp2⟩, hp3⟩ := hp
    have hlt : n < ops.size := by simp at hn; omega
    have hi : ops[n]? = some ops[n] := Array.getElem?_eq_getElem hlt
    have e : ops.toList.drop n = ops[n] :: ops.toList.drop (n + 1) := by
      rw [List.drop_eq_getElem_cons (by simpa using hlt)]; simp
    rw [e, List.zip_cons_cons] at h
    cases q with
    | true =>
      simp only [if_true, Bool.and_eq_true] at hp1
      obtain ⟨v, hy, hS, h⟩ := h
      have ih := txt_sound hin hsel hQ rest (n + 1) _ w (by simp at hn; omega) hp3 h
      rw [← hp2] at ih
      exact S_first hi hsel (fun c a w => hQ c a _ _ w) _ _ _ _ (Region.free_spec hi hp1.1.2) (by simpa using hp1.1.1) (closed_spec hp1.2 (inside_spec hin)) hy hS ih
    | false =>
      simp only [Bool.false_eq_true, if_false, beq_iff_eq] at hp1
      have hr : Region.ready .any ops (upTo n ops.size) = [n] := by simpa using hp1
      refine ⟨fun h0 => (by rw [h0] at hr; cases hr), fun i hii => ?_⟩
      rw [hr] at hii
      obtain rfl := List.mem_singleton.1 hii
      unfold wpOp
      simp only [hi]
      simp only [wpTxt] at h
      have step : ∀ a' w', ((sink ops i = false → S w') ∧ wpTxt P ops Q S (i + 1) ((ops.toList.drop (i + 1)).zip rest) a' w') →
          (sink ops i = false → S w') ∧ wpAnyS P ops Q S rest.length ((upTo i ops.size).setIfInBounds i true) a' w' := fun a' w' h' =>
        ⟨h'.1, by rw [hp2]; exact txt_sound hin hsel hQ rest (i + 1) a' w' (by simp at hn; omega) hp3 h'.2⟩
      split
      · rename_i hw
        rw [if_pos hw] at h
        exact .inl (Oper.wp_mono step h)
      · rename_i hw
        rw [if_neg hw] at h
        exact step _ _ h

theorem upTo_zero (m : Nat) : upTo 0 m = Array.replicate m false := by
  apply Array.ext' ; simp [upTo, List.map_const']

/-- THE REGION, WALKED IN THE TEXT's ORDER. -/
theorem wp_region_txt {id : Nat} {l : List Oper} {a : Act} {w : World} (S : World → Prop) (flags : List Bool) (hm : P.follows .mixedOrders = true) (hp : plan l.toArray flags = true)
    (h : wpTxt P l.toArray (NoPanic Q) S 0 (l.zip flags) a w.drew) : (Code.region id l.toArray true).wp P Q a w := by
  refine wp_region_noPanic ?_
  simp only [plan, Bool.and_eq_true, beq_iff_eq] at hp
  obtain ⟨⟨⟨h0, h1⟩, h2⟩, h3⟩ := hp
  refine wp_region_any hm (any_of_S (S := S) _ _ _ _ ?_)
  have := txt_sound (P := P) (S := S) h0 (Region.noSelect_spec h1) (fun _ _ _ _ _ h => h) flags 0 a w.drew (by omega) h3 (by simpa using h)
  rw [upTo_zero, h2] at this
  exact this

/-- one that only reads: its value is found by running it in whatever world meets S -/
theorem txt_quiet {n : Nat} {o : Oper} {rest : List (Oper × Bool)} {a : Act} {w : World} {v : Value} (hg : o.guard = none) (hy : ∀ w', S w' → (execOp a.eval o).run P w' = .ok (.value v) w') (hS : S w)
    (h : wpTxt P ops Q S (n + 1) rest (a.put o.dst v) w) : wpTxt P ops Q S n ((o, true) :: rest) a w :=
  ⟨v, .inl ⟨by simp [Region.wanted, hg], hy⟩, hS, h⟩
/-- one that is carried out here -/
theorem txt_loud {n : Nat} {o : Oper} {rest : List (Oper × Bool)} {a : Act} {w : World} (hg : o.guard = none)
    (h : ∀ K : Act → World → Prop, (∀ a' w', (sink ops n = false → S w') → wpTxt P ops Q S (n + 1) rest a' w' → K a' w') → o.wp P a w K Q) : wpTxt P ops Q S n ((o, false) :: rest) a w := by
  simp only [wpTxt]
  rw [if_pos (by simp [Region.wanted, hg])]
  exact h _ fun a' w' h1 h2 => ⟨h1, h2⟩
theorem txt_load {n : Nat} {o : Oper} {rest : List (Oper × Bool)} {a : Act} {w : World} (hg : o.guard = none) (ty : TypeId) (x : Operand) (ho : o.op = .load ty x)
    (b k : Nat) (hx : a.eval x = .pointer (some ⟨b, k, none⟩)) (cs : List Value) (d : TypeDesc) (hc : ∀ w', S w' → w'.rangeAt b k cs)
    (hu : P.underlying ty = some d) (hd : d.isRow = true) (hi : (P.info? ty).map (·.size) = some cs.length) (hS : S w)
    (h : wpTxt P ops Q S (n + 1) rest (a.put o.dst (.agg cs.toArray)) w) : wpTxt P ops Q S n ((o, true) :: rest) a w :=
  txt_quiet hg (fun w' hw' => by
    unfold execOp
    simp only [ho, hx, Instr.loadAt, Instr.sureAddr, Sem.run_bind, Sem.run_pure, Result.andThen_ok, run_loadVar_mid w' b k ty cs d (hc w' hw') hu hd hi]) hS h
theorem txt_store {n : Nat} {o : Oper} {rest : List (Oper × Bool)} {a : Act} {w : World} (hg : o.guard = none) (ty : TypeId) (x y : Operand) (ho : o.op = .store ty x y)
    (b k : Nat) (cells : Array Value) (hx : a.eval x = .pointer (some ⟨b, k, none⟩)) (hy : a.eval y = .agg cells)
    (ht : w.there b k cells.size) (hi : (P.info? ty).map (·.size) = some cells.size) (h1 : cells.all (·.oneCell') = true)
    (h : (sink ops n = false → S (w.setCells b k cells.toList)) ∧ wpTxt P ops Q S (n + 1) rest (a.put o.dst undef) (w.setCells b k cells.toList)) : wpTxt P ops Q S n ((o, false) :: rest) a w :=
  txt_loud hg fun _ hK => wp_store_mid ty x y ho b k cells hx hy ht hi h1 (hK _ _ h.1 h.2)
theorem not_sink {n : Nat} {p : Prop} (hs : sink ops n = true) (h : sink ops n = false) : p := by rw [hs] at h; cases h
theorem txt_nil {n : Nat} {a : Act} {w : World} (h : Q .normal a w) : wpTxt P ops (NoPanic Q) S n [] a w := NoPanic.normal h
end
end Go.Proofs.YtahcokfoifdlmaaGreatDoor.Rg
namespace Go.Proofs.YtahcokfoifdlmaaGreatDoor.Kt
open Go Go.RowKit

theorem run_append_nothing {P : Program} {w : World} {t ty e : TypeId} {i : TypeInfo} (ht : P.underlying t = some (.slice e)) (hi : P.info? e = some i) {B size : Nat}
    {v : Value} {n : Nat} {xs : List Value} (hown : w.ownsRow B e size v n xs) (c : Nat) : (Builtin.append_ #[t, t] ty #[v, .slice none 0 c]).run P w = .ok v w := by
  rcases hown.2 with ⟨rfl, rfl⟩ | ⟨g, cap, cur, rfl, _, _, hnc, _⟩
  · simp [Builtin.append_, run_underlying ht, sizeOf, typeInfo, hi, Builtin.lenOf, Builtin.firstCells]
  · simp [Builtin.append_, run_underlying ht, sizeOf, typeInfo, hi, Builtin.lenOf, Builtin.firstCells, hnc, storeCells]

theorem wp_cat {P : Program} {o : Oper} {a : Act} {K : Act → World → Prop} {Q : Exit → Act → World → Prop} {w : World} {E : TypeId}
    (s x : Operand) (t : TypeId) (ho : o.op = .call { callee := .builtin .append, args := #[s, x], argTypes := #[t, t] })
    (ht : P.underlying t = some (.slice E)) (hi : (P.info? E).map (fun i => (i.zero, i.size, i.bytes)) = some (some (.int .u8 0), 1, 1))
    (B : Nat) (w0 : World) (v : Value) (l bs : List UInt8) (Pb : Nat → Prop) (A : Option Addr) (c : Nat) (hs : a.eval s = v) (hx : a.eval x = .slice A bs.length c)
    (hown : Own w B E v l) (hsl : Sl w Pb A c bs) (hlen : l.length + bs.length ≤ 70368744177664) (hb : Below B w0 w) (hbase : B ≤ w.heap.size)
    (h : ∀ v' w', Own w' B E v' (l ++ bs) → Below B w0 w' → w.grownBy w' v.ownBlock → K (a.put o.dst v') w') : o.wp P a w K Q := by
  obtain ⟨i0, hi0, hz0, hz1, hz2⟩ := info_parts hi
  cases A with
  | none =>
    have h0 : bs = [] := by
      cases bs with
      | nil => rfl
      | cons b r => obtain ⟨_, _, he, _⟩ := hsl.2 (by simp); cases he
    subst h0
    have hrun := run_append_nothing (P := P) (ty := o.type) ht hi0 hown c
    simp only [List.length_nil] at hx
    unfold Oper.wp execOp
    simp only [ho, resolve, invoke, builtin, Sem.run_bind, Sem.run_pure, Result.andThen_ok, List.map_toArray, List.map_cons, List.map_nil, hs, hx, hrun]
    exact h v w (by simpa using hown) hb (World.grownBy.refl _ _)
  | some ad =>
    refine wp_append_own _ s x t ho B E i0 (.int .u8 0) 1 1 ht hi0 hz0 hz1 hz2 rfl (by omega) v l.length (u8s l) hs hown ad bs.length c (u8s bs) hx (by simp [u8s_len])
      (fun j u hu => ?_) (u8s_one bs) (by unfold maxLen; omega) (by omega) hbase (fun v' w' h1 h2 _ => ?_)
    · have hj : j < bs.length := by have := (List.getElem?_eq_some_iff.1 hu).1; rwa [u8s_len] at this
      obtain ⟨b, k, he, _, hc⟩ := hsl.cells (by omega)
      injection he with he
      subst he
      rw [Addr.add_mid]
      exact hc j u hu
    · refine h v' w' ?_ (hb.grown h2 hbase fun k hk => (World.ownsRow.lt hown k hk).1) h2
      unfold Own
      rw [List.length_append, u8s_append]
      exact h1
theorem wpList_cat {P : Program} {ops : Array Oper} {rest : List Oper} {o : Oper} {a : Act} {Q : Exit → Act → World → Prop} {w : World} {E : TypeId}
    (hgd : o.guard = none) (s x : Operand) (t : TypeId) (ho : o.op = .call { callee := .builtin .append, args := #[s, x], argTypes := #[t, t] })
    (ht : P.underlying t = some (.slice E)) (hi : (P.info? E).map (fun i => (i.zero, i.size, i.bytes)) = some (some (.int .u8 0), 1, 1))
    (B : Nat) (w0 : World) (v : Value) (l bs : List UInt8) (Pb : Nat → Prop) (A : Option Addr) (c : Nat) (hs : a.eval s = v) (hx : a.eval x = .slice A bs.length c)
    (hown : Own w B E v l) (hsl : Sl w Pb A c bs) (hlen : l.length + bs.length ≤ 70368744177664) (hb : Below B w0 w) (hbase : B ≤ w.heap.size)
    (h : ∀ v' w', Own w' B E v' (l ++ bs) → Below B w0 w' → w.grownBy w' v.ownBlock → wpList P ops Q rest (a.put o.dst v') w') : wpList P ops Q (o :: rest) a w :=
  wpList_plain hgd fun _ hK => wp_cat s x t ho ht hi B w0 v l bs Pb A c hs hx hown hsl hlen hb hbase fun v' w' h1 h2 h3 => hK _ _ (h v' w' h1 h2 h3)
end Go.Proofs.YtahcokfoifdlmaaGreatDoor.Kt

namespace Go.Proofs.YtahcokfoifdlmaaGreatDoor.Wr
open Go Go.RowKit Kt

theorem info8 : (Tryz.prog.info? 5).map (fun i => (i.zero, i.size, i.bytes)) = some (some (.int .u8 0), 1, 1) := by kernel_rfl
theorem make10 (w : World) : (Instr.makeSlice 39 (.int .i64 0) (.int .i64 10)).run Tryz.prog w = .ok (.slice (some ⟨w.heap.size, 0, none⟩) 0 10) (w.alloc (.cells (u8s (List.replicate 10 0)).toArray 5)) := by kernel_rfl

set_option maxHeartbeats 1000000 in
set_option maxRecDepth 100000 in
theorem form_any (n : Nat) (w : World) (h : n < 18446744073709551616) :
    Calls Tryz.prog 69 #[.int .u64 n] w fun e w' => ∃ v, e = .returned v ∧ Own w' w.heap.size 5 v (form n) ∧ Below w.heap.size w w' := by
  have Hn := hide h
  clear h
  have hmk := make10
  go_enter Tryz.func69, Tryz.ntmps69
  go_wp2
  clear hmk
  go_loopw [0, 3] (fun x v wr => ∃ (m : Nat) (l : List UInt8), x = .int .u64 m ∧ m ≤ n ∧ Own wr w.heap.size 5 v l ∧ l ++ form m = form n ∧ Below w.heap.size w wr) (fun x _ _ => (intOf x).toNat)
  case atStart => exact ⟨n, [], rfl, Nat.le_refl _, Own.made _ _ _ _ 10 (Nat.le_refl _) (by simp [u8s]) (by simp [maxLen]), rfl, (Below.refl _ _).alloc (Nat.le_refl _) _⟩
  case round =>
    obtain ⟨m, l, rfl, hm, hown, hl, hb⟩ := hrel
    have Hown := hide hown
    have Hb := hide hb
    have Hl := hide hl
    have Hmn := hide hm
    have hlen : l.length + (form m).length = (form n).length := by rw [← hl, List.length_append]
    have hs10 := form_short n 10 (by have := Hn.out; omega) (by omega)
    have Hlen := hide (show l.length + 10 ≤ 70368744177664 by have := form_pos m; omega)
    have Hm := hide (show m < 18446744073709551616 by have := Hn.out; omega)
    clear hown hb hl hm hlen hs10
    have hm8 : m % 128 + 128 < 256 := by omega
    by_cases hlt : m < 128
    · have Hf := hide (form_lt hlt)
      go_wp2_with (at_builtin; refine wpList_push rfl (.tmp 16) (.tmp 19) 39 rfl Tryz.underlying39 info8 w.heap.size w _ l [UInt8.ofNat m] 1 1 rfl rfl Hown.out ?qc rfl ?ql Hb.out Hb.out.size ?_; rotate_left 2; intro v' w1 hown1 hb1 _)
      case qc => simp [u8s, UInt8.toNat_ofNat']; omega
      case ql => have := Hlen.out; simp; omega
      go_ret
      refine ⟨_, rfl, ?_, hb1⟩
      rw [← Hl.out, Hf.out]
      exact hown1
    · have Hf := hide (form_ge hlt)
      go_wp2_with (at_builtin; go_loud (refine wpList_push rfl (.tmp 7) (.tmp 12) 39 rfl Tryz.underlying39 info8 w.heap.size w _ l [UInt8.ofNat (m % 128 + 128)] 1 1 rfl rfl Hown.out ?qc rfl ?ql Hb.out Hb.out.size ?_; rotate_left 2; intro v' w1 hown1 hb1 _))
      case qc => simp [u8s, UInt8.toNat_ofNat']; omega
      case ql => have := Hlen.out; simp; omega
      refine ⟨⟨m / 128, _, by push_cast; rfl, by have := Hmn.out; omega, hown1, ?_, hb1⟩, ?_⟩
      · rw [← Hl.out, Hf.out]; simp
      · simp only [intOf]; omega
end Go.Proofs.YtahcokfoifdlmaaGreatDoor.Wr
namespace Go.Proofs.YtahcokfoifdlmaaGreatDoor.Wr
open Go Go.RowKit Kt

/-- a slice that holds these bytes: a value, its length, and what it holds -/
def Is (w : World) (P : Nat → Prop) (v : Value) (l : List UInt8) : Prop := ∃ A c, v = .slice A l.length c ∧ Sl w P A c l
theorem Is.move {w w' : World} {P : Nat → Prop} {v : Value} {l : List UInt8} (h : Is w P v l) (hk : ∀ b, P b → b < w.heap.size → w'.heap[b]? = w.heap[b]?) : Is w' P v l := by
  obtain ⟨A, c, rfl, hs⟩ := h
  exact ⟨A, c, rfl, hs.move hk⟩
theorem Is.below {w w' : World} {P : Nat → Prop} {v : Value} {l : List UInt8} (h : Is w P v l) (hb : Below w.heap.size w w') : Is w' P v l := h.move fun b _ hlt => hb.block b hlt
theorem Is.imp {w : World} {P Q : Nat → Prop} {v : Value} {l : List UInt8} (h : Is w P v l) (hi : ∀ b, b < w.heap.size → P b → Q b) : Is w Q v l := by
  obtain ⟨A, c, rfl, hs⟩ := h
  exact ⟨A, c, rfl, hs.imp hi⟩
theorem Is.bound {w : World} {P : Nat → Prop} {v : Value} {l : List UInt8} (h : Is w P v l) : Is w (fun b => P b ∧ b < w.heap.size) v l := h.imp fun _ hb hp => ⟨hp, hb⟩
theorem Is.nil (w : World) (P : Nat → Prop) : Is w P (.slice none 0 0) [] := ⟨none, 0, rfl, Sl.nil _ _ _ _⟩
theorem Is.own {w : World} {B : Nat} {E : TypeId} {v : Value} {l : List UInt8} (h : Own w B E v l) : Is w (fun b => B ≤ b ∧ v.ownBlock = some b) v l := h.sl

set_option maxHeartbeats 1000000 in
set_option maxRecDepth 100000 in
theorem clone_any (l : List UInt8) (A : Option Addr) (c : Nat) (Pb : Nat → Prop) (w : World) (hs : Sl w Pb A c l) (hl : l.length ≤ 70368744177664) :
    Calls Tryz.prog 70 #[.slice A l.length c] w fun e w' => ∃ v, e = .returned v ∧ Own w' w.heap.size 5 v l ∧ Below w.heap.size w w' := by
  have Hs := hide hs
  have Hl := hide hl
  clear hs hl
  have q22 : ∀ (w : World) (a : Option Addr) (n c n' c' : Nat), (binOp .eql 39 (.slice a n c) (.slice none n' c')).run Tryz.prog w = .ok (.bool a.isNone) w := fun w a n c n' c' => Lib.run_eql_slice_nil w _ _ a n c n' c' Tryz.underlying39
  cases A with
  | none =>
    have h0 : l = [] := by
      cases l with
      | nil => rfl
      | cons b r => obtain ⟨_, _, he, _⟩ := Hs.out.2 (by simp); cases he
    subst h0
    go_enter Tryz.func70, Tryz.ntmps70
    go_wp2
    go_ret
    exact ⟨_, rfl, Own.nil _ _ _, Below.refl _ _⟩
  | some ad =>
    go_enter Tryz.func70, Tryz.ntmps70
    go_wp2_with (at_builtin; go_loud (refine wpList_cat rfl (.tmp 5) (.tmp 6) 39 rfl Tryz.underlying39 info8 w.heap.size w _ [] l Pb (some ad) c rfl rfl (Own.made w w.heap.size 5 #[] 0 (Nat.le_refl _) rfl (Nat.zero_le _)) ?qs ?ql ?qb ?qz ?_; rotate_left 4; intro v' w1 hown1 hb1 _))
    case qs => exact Hs.out.move fun b _ hb => Below.heap_alloc w _ b hb
    case ql => simpa using Hl.out
    case qb => exact (Below.refl _ _).alloc (Nat.le_refl _) _
    case qz => simp
    go_ret
    exact ⟨_, rfl, hown1, hb1⟩

set_option maxHeartbeats 1000000 in
set_option maxRecDepth 100000 in
theorem grow_nil (n : Nat) (w : World) (hn : n ≤ 70368744177664) :
    Calls Tryz.prog 87 #[.slice none 0 0, .int .i64 n] w fun e w' => ∃ v, e = .returned v ∧ Own w' w.heap.size 5 v [] ∧ Below w.heap.size w w' := by
  by_cases h0 : n = 0
  · subst h0
    go_enter Tryz.func87, Tryz.ntmps87
    go_wp2
    go_ret
    exact ⟨_, rfl, Own.nil _ _ _, Below.refl _ _⟩
  · obtain ⟨i0, hi, hz0, hz1, hz2⟩ := info_parts info8
    have hrz := fun ty => Lib.run_append_grow_zeros (P := Tryz.prog) w 39 3 ty 5 i0 (.int .u8 0) .i64 .i64 Tryz.underlying39 Tryz.underlying3 hi hz0 none 0 0 [] (run_firstCells_none w.drew i0.size 0 0 0) n (by omega) (by rw [hz1]; omega) (by omega) (by omega) (by rw [hz2]; omega)
      (by rw [hz2]; have := growslice_fits (need := 0 + n) (old := 0) (bytes := 1) (by omega) (by omega); simpa using this)
    have hG1 := grownCap_ge w (0 + n) 0 5
    have hG2 := grownCap_le_maxLen w (0 + n) 0 5 (by unfold maxLen; omega)
    obtain ⟨G, hG⟩ : ∃ G, G = grownCap w (0 + n) 0 5 := ⟨_, rfl⟩
    rw [← hG] at hrz hG1 hG2
    have hG3 := hG2
    unfold maxLen at hG3
    clear hG
    go_enter Tryz.func87, Tryz.ntmps87
    go_wp2_with (at_builtin; go_loud (refine Lib.wpList_append_run _ rfl _ _ _ _ rfl _ _ rfl rfl _ _ (hrz _) ?_))
    go_ret
    refine ⟨_, rfl, Own.drew (Own.made w w.heap.size 5 _ G (Nat.le_refl _) ?_ hG2), ((Below.refl _ _).alloc (Nat.le_refl _) _).drew⟩
    simp [Builtin.zeroCells]
    omega

/-- the cells of a list of slices of bytes -/
def cat (ls : List (List UInt8)) : List UInt8 := ls.flatten
theorem cat_take (ls : List (List UInt8)) (k : Nat) (h : k < ls.length) : cat (ls.take (k + 1)) = cat (ls.take k) ++ ls.getD k [] := by
  unfold cat
  rw [List.take_succ_eq_append_getElem h, List.flatten_append]
  simp [List.getElem?_eq_getElem h]
theorem cat_len (ls : List (List UInt8)) (k : Nat) : (cat (ls.take k)).length ≤ (cat ls).length := by
  have e : cat ls = cat (ls.take k) ++ cat (ls.drop k) := by unfold cat; rw [← List.flatten_append, List.take_append_drop]
  rw [e, List.length_append]
  omega

set_option maxHeartbeats 2000000 in
set_option maxRecDepth 100000 in
theorem concat_any (ls : List (List UInt8)) (vs : List Value) (g c : Nat) (w : World) (hv : vs.length = ls.length) (hg : Row w g 39 vs) (hc : vs.length ≤ c) (hm : vs.length < 1000)
    (hs : ∀ k, k < ls.length → Is w (fun _ => True) (vs.getD k (.bool false)) (ls.getD k [])) (hl : (cat ls).length ≤ 70368744177664) :
    Calls Tryz.prog 68 #[.slice (some ⟨g, 0, none⟩) vs.length c] w fun e w' => ∃ v, e = .returned v ∧ Own w' w.heap.size 5 v (cat ls) ∧ Below w.heap.size w w' := by
  have Hs := hide hs
  have Hl := hide hl
  have Hg := hide hg
  have Hv := hide hv
  have Hc := hide hc
  clear hs hl hg hv hc
  go_enter Tryz.func68, Tryz.ntmps68
  go_wp2
  go_loopw [3, 11] (fun s i wr => ∃ k : Nat, k ≤ vs.length ∧ i = .int .i64 k ∧ s = .int .i64 ((cat (ls.take k)).length : Nat) ∧ w = wr) (fun _ i _ => vs.length - (intOf i).toNat)
  case atStart => exact ⟨0, Nat.zero_le _, rfl, rfl, rfl⟩
  case round =>
    obtain ⟨k, hk, rfl, rfl, rfl⟩ := hrel
    by_cases hlt : k < vs.length
    · have hkl : k < ls.length := by rw [← Hv.out]; exact hlt
      obtain ⟨A, cp, hA, hsl⟩ := Hs.out k hkl
      have Hn := hide (congrArg List.length (cat_take ls k hkl))
      have hb1 := cat_len ls (k + 1)
      rw [Hn.out, List.length_append] at hb1
      have hcell : w.cell? ⟨g, k, none⟩ = some (.slice A (ls.getD k []).length cp) := by
        rw [Hg.out.cell, ← hA]; simp [List.getElem?_eq_getElem hlt]
      have Hsum := hide (Hn.out.trans List.length_append)
      clear Hn hsl
      have hb2 := Hl.out
      generalize (ls.getD k []).length = m at *
      generalize (cat (ls.take k)).length = q at *
      generalize (cat ls).length = tot at *
      go_wp2
      refine ⟨⟨k + 1, by omega, by go_num, ?_, trivial⟩, ?_⟩
      · rw [Hsum.out]; go_num
      · simp [intOf]; omega
    · obtain rfl : k = vs.length := by omega
      have e1 : ls.take vs.length = ls := List.take_of_length_le (by rw [Hv.out]; exact Nat.le_refl _)
      rw [e1]
      have hb2 := Hl.out
      have Ht := hide (show cat (ls.take vs.length) = cat ls by rw [e1])
      go_wp2_with (go_at_call 87; go_loud (refine (grow_nil _ _ hb2).mono ?_; rintro e w1 ⟨v1, rfl, hown1, hb1⟩))
      go_loopw [6, 27] (fun s i wx => ∃ k : Nat, k ≤ vs.length ∧ i = .int .i64 k ∧ Own wx w.heap.size 5 s (cat (ls.take k)) ∧ Below w.heap.size w wx) (fun _ i _ => vs.length - (intOf i).toNat)
      case atStart => exact ⟨0, Nat.zero_le _, rfl, hown1, hb1⟩
      case round =>
        clear hown1 hb1
        obtain ⟨k, hk, rfl, hown, hb⟩ := hrel
        have Hown := hide hown
        have Hb := hide hb
        clear hown hb
        by_cases hlt : k < vs.length
        · have hkl : k < ls.length := by rw [← Hv.out]; exact hlt
          obtain ⟨A, cp, hA, hsl⟩ := Hs.out k hkl
          have Hcat := hide (cat_take ls k hkl)
          have Hn := hide (congrArg List.length (cat_take ls k hkl))
          have hb1 := cat_len ls (k + 1)
          rw [Hn.out, List.length_append] at hb1
          have hcell : wr.cell? ⟨g, k, none⟩ = some (.slice A (ls.getD k []).length cp) := by
            rw [(Hg.out.below Hb.out Hg.out.lt).cell, ← hA]; simp [List.getElem?_eq_getElem hlt]
          have Hsl := hide (hsl.move (w' := wr) fun b _ hlt => Hb.out.block b hlt)
          have Hlen := hide (show (cat (ls.take k)).length + (ls.getD k []).length ≤ 70368744177664 by omega)
          clear Hn hsl hb1
          generalize ls.getD k [] = bs at *
          go_wp2_with (at_builtin; go_loud (refine wpList_cat rfl (.tmp 31) (.tmp 32) 39 rfl Tryz.underlying39 info8 w.heap.size w _ _ bs (fun _ => True) A cp rfl rfl Hown.out Hsl.out Hlen.out Hb.out Hb.out.size ?_; intro v' w2 hown2 hb2 _))
          rw [← Hcat.out] at hown2
          exact ⟨⟨k + 1, by omega, by go_num, hown2, hb2⟩, by simp [intOf]; omega⟩
        · obtain rfl : k = vs.length := by omega
          go_wp2
          go_ret
          refine ⟨_, rfl, ?_, Hb.out⟩
          rw [← Ht.out]
          exact Hown.out

end Go.Proofs.YtahcokfoifdlmaaGreatDoor.Wr
namespace Go.Proofs.YtahcokfoifdlmaaGreatDoor.Wr
open Go Go.RowKit Kt

theorem Is.own' {w w' : World} {B : Nat} {E : TypeId} {v : Value} {l : List UInt8} (h : Own w B E v l) (hb : Below w.heap.size w w') : Is w' (fun _ => True) v l := ((Is.own h).imp fun _ _ _ => trivial).below hb

theorem _root_.Go.Proofs.YtahcokfoifdlmaaGreatDoor.Kt.Own.base {w : World} {B B' : Nat} {E : TypeId} {v : Value} {l : List UInt8} (h : Own w B E v l) (hB : B' ≤ B) : Own w B' E v l := by
  refine ⟨h.1, ?_⟩
  rcases h.2 with ⟨h1, h2⟩ | ⟨g, cap, cur, hv', h1, h2⟩
  · exact .inl ⟨h1, h2⟩
  · exact .inr ⟨g, cap, cur, hv', Nat.le_trans hB h1, h2⟩

set_option maxHeartbeats 1000000 in
set_option maxRecDepth 100000 in
theorem num_any (l : List UInt8) (n : Nat) (A0 : Option Addr) (c0 : Nat) (Pb : Nat → Prop) (w : World) (hs : Sl w Pb A0 c0 l) (hn : n < 18446744073709551616) (hl : l.length + 10 ≤ 70368744177664) :
    Calls Tryz.prog 47 #[.slice A0 l.length c0, .int .u64 n] w fun e w' => ∃ v', e = .returned v' ∧ Own w' w.heap.size 5 v' (l ++ form n) ∧ Below w.heap.size w w' := by
  have Hs : Hid (Is w (fun _ => True) (.slice A0 l.length c0) l) := hide ⟨A0, c0, rfl, hs.imp fun _ _ _ => trivial⟩
  have Hn := hide hn
  have Hf := hide (form_short n 10 (by omega) (by omega))
  have Hl := hide hl
  clear hs hn hl
  go_enter Tryz.func47, Tryz.ntmps47
  go_wp2_with (go_at_call 69; refine (form_any _ _ Hn.out).mono ?_; rintro e w1 ⟨v1, rfl, hown1, hb1⟩; obtain ⟨A1, c1, rfl, _⟩ := Is.own hown1; have Hown1 := hide hown1; have Hb1 := hide hb1; clear hown1 hb1)
  refine (concat_any [l, form n] [.slice A0 l.length c0, .slice A1 (form n).length c1] w1.heap.size 2 _ rfl (Row.fresh w1 _ _) (by simp) (by simp) ?_ (by have := Hl.out; have := Hf.out; simp [cat]; omega)).mono ?_
  · intro k hk
    have hb := Hb1.out.alloc Hb1.out.size (.cells #[.slice A0 l.length c0, .slice A1 (form n).length c1] 39)
    rcases k with _ | _ | k
    · exact Is.below Hs.out hb
    · exact (Is.own' Hown1.out (Below.refl _ _)).below ((Below.refl _ _).alloc (Nat.le_refl _) _)
    · simp at hk; omega
  · rintro e w2 ⟨v2, rfl, hown2, hb2⟩
    have hb := Hb1.out.alloc Hb1.out.size (.cells #[.slice A0 l.length c0, .slice A1 (form n).length c1] 39)
    go_wp2
    go_ret
    refine ⟨_, rfl, ?_, hb.trans (hb2.mono hb.size)⟩
    have e : cat [l, form n] = l ++ form n := by simp [cat]
    rw [e] at hown2
    exact hown2.base hb.size

set_option maxHeartbeats 1000000 in
set_option maxRecDepth 100000 in
theorem text_put (l x : List UInt8) (A0 : Option Addr) (c0 : Nat) (A : Option Addr) (c : Nat) (Pb Px : Nat → Prop) (w : World) (hs : Sl w Pb A0 c0 l) (hx : Sl w Px A c x) (hl : l.length + x.length + 10 ≤ 70368744177664) :
    Calls Tryz.prog 48 #[.slice A0 l.length c0, .slice A x.length c] w fun e w' => ∃ v', e = .returned v' ∧ Own w' w.heap.size 5 v' (l ++ (form x.length ++ x)) ∧ Below w.heap.size w w' := by
  have Hs : Hid (Is w (fun _ => True) (.slice A0 l.length c0) l) := hide ⟨A0, c0, rfl, hs.imp fun _ _ _ => trivial⟩
  have Hx : Hid (Is w (fun _ => True) (.slice A x.length c) x) := hide ⟨A, c, rfl, hx.imp fun _ _ _ => trivial⟩
  have Hf := hide (form_short x.length 10 (by omega) (by omega))
  have Hn := hide (show x.length < 18446744073709551616 by omega)
  have Hl := hide hl
  clear hs hx
  go_enter Tryz.func48, Tryz.ntmps48
  go_wp2_with (go_at_call 69; refine (form_any _ _ Hn.out).mono ?_; rintro e w1 ⟨v1, rfl, hown1, hb1⟩; obtain ⟨A1, c1, rfl, _⟩ := Is.own hown1; have Hown1 := hide hown1; have Hb1 := hide hb1; clear hown1 hb1)
  refine (concat_any [l, form x.length, x] [.slice A0 l.length c0, .slice A1 (form x.length).length c1, .slice A x.length c] w1.heap.size 3 _ rfl (Row.fresh w1 _ _) (by simp) (by simp) ?_ (by have := Hl.out; have := Hf.out; simp [cat]; omega)).mono ?_
  · intro k hk
    have hb := Hb1.out.alloc Hb1.out.size (.cells #[.slice A0 l.length c0, .slice A1 (form x.length).length c1, .slice A x.length c] 39)
    rcases k with _ | _ | _ | k
    · exact Is.below Hs.out hb
    · exact (Is.own' Hown1.out (Below.refl _ _)).below ((Below.refl _ _).alloc (Nat.le_refl _) _)
    · exact Is.below Hx.out hb
    · simp at hk; omega
  · rintro e w2 ⟨v2, rfl, hown2, hb2⟩
    have hb := Hb1.out.alloc Hb1.out.size (.cells #[.slice A0 l.length c0, .slice A1 (form x.length).length c1, .slice A x.length c] 39)
    go_wp2
    go_ret
    refine ⟨_, rfl, ?_, hb.trans (hb2.mono hb.size)⟩
    have e : cat [l, form x.length, x] = l ++ (form x.length ++ x) := by simp [cat]
    rw [e] at hown2
    exact hown2.base hb.size
end Go.Proofs.YtahcokfoifdlmaaGreatDoor.Wr

namespace Go.Proofs.YtahcokfoifdlmaaGreatDoor.Wr
open Go Go.RowKit Kt

theorem pow_seven (k : Nat) : 128 ^ k = 2 ^ (7 * k) := by rw [show (128 : Nat) = 2 ^ 7 from rfl, ← Nat.pow_mul]
/-- what a byte more makes of the number, in the machine's words -/
theorem or_step (m x k : Nat) (hm : m < 128 ^ k) (hk : k ≤ 9) :
    ∃ q : Nat, bits BinOp.or IntKind.u64 (m : Int) (IntKind.u64.wrap ((x : Int) % 128 * 2 ^ (7 * k))) = (q : Int) ∧ q < 18446744073709551616 ∧ (k ≤ 8 ∨ x ≤ 1 → q = m + 128 ^ k * (x % 128)) := by
  have e1 : IntKind.u64.wrap ((x : Int) % 128 * 2 ^ (7 * k)) = ((x % 128 * 128 ^ k % 18446744073709551616 : Nat) : Int) := by
    rw [IntKind.wrap_u64, pow_seven, Int.natCast_emod, Int.natCast_mul, Int.natCast_emod, Int.natCast_pow]
    rfl
  have hp : 128 ^ k ≤ 128 ^ 9 := Nat.pow_le_pow_right (by omega) hk
  have hmod := Nat.mod_lt (x % 128 * 128 ^ k) (show 0 < 18446744073709551616 by omega)
  rw [e1, u64_or_nat m _ (by omega) hmod]
  refine ⟨_, rfl, Nat.or_lt_two_pow (n := 64) (by omega) hmod, fun h => ?_⟩
  have hlt : x % 128 * 128 ^ k < 18446744073709551616 := by
    rcases h with h | h
    · have hp8 : 128 ^ k ≤ 128 ^ 8 := Nat.pow_le_pow_right (by omega) h
      have := Nat.mul_le_mul (show x % 128 ≤ 127 by omega) hp8
      omega
    · have := Nat.mul_le_mul (show x % 128 ≤ 1 by omega) hp
      omega
  rw [Nat.mod_eq_of_lt hlt, Nat.or_comm, Nat.mul_comm, pow_seven]
  rw [pow_seven] at hm
  rw [nat_join (7 * k) _ _ (Nat.mul_mod_right _ _) hm, Nat.add_comm]

theorem num_ok (bs : List UInt8) (k : Nat) (h : lead bs = k) (h9 : k < 10) (hk : k < bs.length) (hx : ¬ ((0 < k ∧ (bs.getD k 0).toNat = 0) ∨ (k = 9 ∧ 1 < (bs.getD k 0).toNat))) : numOf bs = (val (bs.take (k + 1)), k + 1, 0) := by
  unfold numOf
  rw [h, if_neg (by omega), if_neg (by omega), if_neg hx]
theorem num_form (bs : List UInt8) (k : Nat) (h : lead bs = k) (h9 : k < 10) (hk : k < bs.length) (hx : (0 < k ∧ (bs.getD k 0).toNat = 0) ∨ (k = 9 ∧ 1 < (bs.getD k 0).toNat)) : numOf bs = (0, 0, 3) := by
  unfold numOf
  rw [h, if_neg (by omega), if_neg (by omega), if_pos hx]
theorem num_short (bs : List UInt8) (h : ∀ j, j < bs.length → 128 ≤ (bs.getD j 0).toNat) (h9 : bs.length < 10) : numOf bs = (0, 0, 2) := by
  unfold numOf
  rw [lead_all bs h, if_neg (by omega), if_pos rfl]
theorem num_long (bs : List UInt8) (h : ∀ j, j < 10 → 128 ≤ (bs.getD j 0).toNat) (h9 : 10 ≤ bs.length) : numOf bs = (0, 0, 3) := by
  unfold numOf
  have : 10 ≤ lead bs := by
    rcases Nat.lt_or_ge (lead bs) 10 with h1 | h1
    · have := lead_stop bs (by omega)
      have := h _ h1
      omega
    · exact h1
  rw [if_pos this]

def numV (r : Nat × Nat × Nat) : Value := .tuple #[.int .u64 r.1, .int .i64 r.2.1, .int .i64 r.2.2]

set_option maxHeartbeats 1000000 in
set_option maxRecDepth 100000 in
theorem number_any (bs : List UInt8) (A : Option Addr) (c : Nat) (Pb : Nat → Prop) (w : World) (hs : Sl w Pb A c bs) (hl : bs.length ≤ 70368744177664) :
    Calls Tryz.prog 89 #[.slice A bs.length c] w fun e w' => e = .returned (numV (numOf bs)) ∧ w = w' := by
  have hc := hs.1
  by_cases h0 : bs = []
  · subst h0
    have e : numOf [] = (0, 0, 2) := by decide
    cases A with
    | none =>
      go_enter Tryz.func89, Tryz.ntmps89
      go_wp2
      go_loopw [5, 14] (fun n i wr => i = .int .i64 (0 : Nat) ∧ w = wr) (fun _ _ _ => 0)
      case atStart => exact ⟨rfl, rfl⟩
      case round =>
        obtain ⟨rfl, rfl⟩ := hrel
        go_wp2
        go_ret3
        exact ⟨by rw [e]; rfl, rfl⟩
    | some ad =>
      go_enter Tryz.func89, Tryz.ntmps89
      go_wp2
      go_loopw [5, 14] (fun n i wr => i = .int .i64 (0 : Nat) ∧ w = wr) (fun _ _ _ => 0)
      case atStart => exact ⟨rfl, rfl⟩
      case round =>
        obtain ⟨rfl, rfl⟩ := hrel
        go_wp2
        go_ret3
        exact ⟨by rw [e]; rfl, rfl⟩
  · obtain ⟨b, o, rfl, _, hcell⟩ := hs.2 (List.length_pos_iff.2 h0)
    have hpos : 0 < bs.length := List.length_pos_iff.2 h0
    have Hcell := hide hcell
    clear hcell hs
    obtain ⟨N, hN⟩ : ∃ N, N = bs.length := ⟨_, rfl⟩
    rw [← hN] at hc hl hpos
    obtain ⟨M, hM, hM2⟩ : ∃ M : Nat, (if (10 : Int) < (N : Int) then (10 : Int) else (N : Int)) = (M : Int) ∧ M = min 10 N := by
      refine ⟨min 10 N, ?_, rfl⟩
      split <;> omega
    have hMN : M ≤ N := by omega
    have hM10 : M ≤ 10 := by omega
    have HM := hide hM2
    clear hM2
    rw [← hN]
    have HN := hide hN
    clear hN
    go_enter Tryz.func89, Tryz.ntmps89
    go_wp2
    go_loopw [5, 14] (fun n i wr => ∃ k m : Nat, k ≤ M ∧ i = .int .i64 k ∧ n = .int .u64 m ∧ (∀ j, j < k → 128 ≤ (bs.getD j 0).toNat) ∧ (k ≤ 9 → m = val (bs.take k)) ∧ m < 18446744073709551616 ∧ w = wr) (fun _ i _ => M - (intOf i).toNat)
    case atStart => exact ⟨0, 0, Nat.zero_le _, rfl, rfl, fun j h => absurd h (Nat.not_lt_zero _), fun _ => rfl, by omega, rfl⟩
    case round =>
      obtain ⟨k, m, hk, rfl, rfl, hall, hval, hm, rfl⟩ := hrel
      have Hall := hide hall
      have Hval := hide hval
      have Hm := hide hm
      clear hall hval hm
      by_cases hlt : k < M
      · have hck := Hcell.out k (by have := HN.out; omega)
        obtain ⟨x, hx⟩ : ∃ x, x = (bs.getD k 0).toNat := ⟨_, rfl⟩
        rw [← hx] at hck
        have hx8 : x < 256 := by rw [hx]; exact toNat_lt _
        have Hx := hide hx
        clear hx
        have hmv : m = val (bs.take k) := Hval.out (by omega)
        have hkl : k < bs.length := by have := HN.out; omega
        have hml := val_lt (bs.take k)
        rw [← hmv, List.length_take, Nat.min_eq_left (by omega)] at hml
        obtain ⟨q, hq, hq64, hqv⟩ := or_step m x k hml (by omega)
        have hvs : val (bs.take (k + 1)) = m + 128 ^ k * (x % 128) := by
          rw [List.take_succ_eq_append_getElem hkl, val_append, ← hmv, List.length_take, Nat.min_eq_left (by omega)]
          have e : bs[k] = bs.getD k 0 := by simp [List.getElem?_eq_getElem hkl]
          rw [e]
          simp only [val]
          rw [← Hx.out]
          rfl
        have Hq := hide hq64
        have Hqv := hide (show k ≤ 8 ∨ x ≤ 1 → q = val (bs.take (k + 1)) from fun h => (hqv h).trans hvs.symm)
        have Hkl := hide hkl
        clear hq64 hqv hmv hkl hml hvs
        by_cases h128 : 128 ≤ x
        · go_wp2
          refine ⟨⟨k + 1, q, by omega, by go_num, rfl, fun j hj => ?_, fun h9 => Hqv.out (.inl (by omega)), Hq.out, trivial⟩, by simp [intOf]; omega⟩
          rcases Nat.lt_or_ge j k with hj' | hj'
          · exact Hall.out j hj'
          · obtain rfl : j = k := by omega
            rw [← Hx.out]; exact h128
        · have Hlead := hide (lead_of bs k Hkl.out Hall.out (by rw [← Hx.out]; omega))
          have Hxs := hide (show x = (bs.getD k 0).toNat from Hx.out)
          by_cases hk0 : k < 1
          · have Hr := hide (num_ok bs k Hlead.out (by omega) Hkl.out (by omega))
            rw [← Hqv.out (.inl (by omega))] at Hr
            go_wp2
            go_ret3
            exact ⟨by rw [Hr.out]; simp [numV], rfl⟩
          · by_cases hk9 : 8 < k
            · by_cases hx0 : x < 1
              · have Hr := hide (num_form bs k Hlead.out (by omega) Hkl.out (by rw [← Hxs.out]; omega))
                go_wp2
                go_ret3
                exact ⟨by rw [Hr.out]; simp [numV], rfl⟩
              · by_cases hx1 : x < 2
                · have Hr := hide (num_ok bs k Hlead.out (by omega) Hkl.out (by rw [← Hxs.out]; omega))
                  rw [← Hqv.out (.inr (by omega))] at Hr
                  have eb1 : ((x : Int) == 0) = false := beq_eq_false_iff_ne.2 (by omega)
                  have eb2 : decide (1 < (x : Int)) = false := decide_eq_false (by omega)
                  go_wp2
                  go_ret3
                  exact ⟨by rw [Hr.out]; simp [numV]; omega, rfl⟩
                · have Hr := hide (num_form bs k Hlead.out (by omega) Hkl.out (by rw [← Hxs.out]; omega))
                  go_wp2
                  go_ret3
                  exact ⟨by rw [Hr.out]; simp [numV], rfl⟩
            · by_cases hx0 : x < 1
              · have Hr := hide (num_form bs k Hlead.out (by omega) Hkl.out (by rw [← Hxs.out]; omega))
                go_wp2
                go_ret3
                exact ⟨by rw [Hr.out]; simp [numV], rfl⟩
              · have Hr := hide (num_ok bs k Hlead.out (by omega) Hkl.out (by rw [← Hxs.out]; omega))
                rw [← Hqv.out (.inl (by omega))] at Hr
                go_wp2
                go_ret3
                exact ⟨by rw [Hr.out]; simp [numV], rfl⟩
      · obtain rfl : k = M := by omega
        by_cases h10 : N < 10
        · have Hr := hide (num_short bs (fun j hj => Hall.out j (by have := HM.out; have := HN.out; omega)) (by have := HN.out; omega))
          go_wp2
          go_ret3
          exact ⟨by rw [Hr.out]; simp [numV], rfl⟩
        · have Hr := hide (num_long bs (fun j hj => Hall.out j (by have := HM.out; have := HN.out; omega)) (by have := HN.out; omega))
          go_wp2
          go_ret3
          exact ⟨by rw [Hr.out]; simp [numV], rfl⟩
end Go.Proofs.YtahcokfoifdlmaaGreatDoor.Wr

namespace Go.Proofs.YtahcokfoifdlmaaGreatDoor.Wr
open Go Go.RowKit Kt

theorem sl_take {w : World} {P : Nat → Prop} {A : Option Addr} {c k : Nat} {bs : List UInt8} (h : Sl w P A c bs) (hk : k ≤ bs.length) : Sl w P A c (bs.take k) := by
  have hl : (bs.take k).length = k := by rw [List.length_take]; omega
  refine ⟨by have := h.1; omega, fun hn => ?_⟩
  rw [hl] at hn
  obtain ⟨b, o, rfl, hp, hc⟩ := h.2 (by omega)
  refine ⟨b, o, rfl, hp, fun j hj => ?_⟩
  rw [hl] at hj
  rw [hc j (by omega), take_getD _ _ _ hj]

theorem text_bad (bs : List UInt8) (most : Int) (h : (numOf bs).2.2 ≠ 0) : textOf bs most = ([], 0, (numOf bs).2.2) := by unfold textOf; rw [if_pos h]
theorem text_over (bs : List UInt8) (most : Int) (n k : Nat) (h : numOf bs = (n, k, 0)) (h2 : (max most 0).toNat < n) : textOf bs most = ([], 0, 4) := by
  unfold textOf; rw [h, if_neg (by simp), if_pos h2]
theorem text_less (bs : List UInt8) (most : Int) (n k : Nat) (h : numOf bs = (n, k, 0)) (h2 : ¬ (max most 0).toNat < n) (h3 : bs.length - k < n) : textOf bs most = ([], 0, 2) := by
  unfold textOf; rw [h, if_neg (by simp), if_neg h2, if_pos h3]
theorem text_fine (bs : List UInt8) (most : Int) (n k : Nat) (h : numOf bs = (n, k, 0)) (h2 : ¬ (max most 0).toNat < n) (h3 : ¬ bs.length - k < n) : textOf bs most = ((bs.drop k).take n, k + n, 0) := by
  unfold textOf; rw [h, if_neg (by simp), if_neg h2, if_neg h3]

theorem clone_of (l : List UInt8) (n : Nat) (hn : l.length = n) (A : Option Addr) (c : Nat) (Pb : Nat → Prop) (w : World) (hs : Sl w Pb A c l) (hl : l.length ≤ 70368744177664) :
    Calls Tryz.prog 70 #[.slice A n c] w fun e w' => ∃ v, e = .returned v ∧ Own w' w.heap.size 5 v l ∧ Below w.heap.size w w' := by
  subst hn
  exact clone_any l A c Pb w hs hl

set_option maxHeartbeats 2000000 in
set_option maxRecDepth 100000 in
theorem text_any (bs : List UInt8) (most : Int) (A : Option Addr) (c : Nat) (Pb : Nat → Prop) (w : World) (hs : Sl w Pb A c bs) (hl : bs.length ≤ 70368744177664) (hm1 : most ≤ 9223372036854775807) :
    Calls Tryz.prog 74 #[.slice A bs.length c, .int .i64 most] w fun e w' => ∃ v, e = .returned (.tuple #[v, .int .i64 ((textOf bs most).2.1 : Nat), .int .i64 ((textOf bs most).2.2 : Nat)]) ∧ Own w' w.heap.size 5 v (textOf bs most).1 ∧ Below w.heap.size w w' := by
  have hnum := number_any bs A c Pb w hs hl
  have hc := hs.1
  have Hs := hide hs
  clear hs
  obtain ⟨M, hM⟩ : ∃ M, M = (max most 0).toNat := ⟨_, rfl⟩
  have hmx : (if most < 0 then (0 : Int) else most) = (M : Int) := by split <;> omega
  have hM63 : M < 9223372036854775808 := by omega
  have hwM : IntKind.u64.wrap (M : Int) = (M : Int) := by rw [IntKind.wrap_u64]; omega
  have HM := hide hM
  have Hm1 := hide hm1
  have HM63 := hide hM63
  clear hM hm1 hM63
  obtain ⟨n, k, e, hr⟩ : ∃ n k e, numOf bs = (n, k, e) := ⟨_, _, _, rfl⟩
  rw [hr] at hnum
  have Hnum := hide hnum
  clear hnum
  have Hr := hide hr
  by_cases he : e = 0
  · subst he
    obtain ⟨hn64, hk1, hk10, hkl, _⟩ := numOf_ok bs n k hr
    have Hn64 := hide hn64
    clear hn64 hr
    by_cases h2 : M < n
    · have Ht := hide (text_over bs most n k Hr.out (by rw [← HM.out]; exact h2))
      go_enter Tryz.func74, Tryz.ntmps74
      go_wp2_with (go_at_call 89; go_loud (refine Hnum.out.mono ?_; rintro e w1 ⟨rfl, rfl⟩; simp only [numV]))
      go_ret3
      exact ⟨_, by rw [Ht.out]; rfl, by rw [Ht.out]; exact Own.nil _ _ _, Below.refl _ _⟩
    · by_cases h3 : bs.length - k < n
      · have Ht := hide (text_less bs most n k Hr.out (by rw [← HM.out]; exact h2) h3)
        go_enter Tryz.func74, Tryz.ntmps74
        go_wp2_with (go_at_call 89; go_loud (refine Hnum.out.mono ?_; rintro e w1 ⟨rfl, rfl⟩; simp only [numV]))
        go_ret3
        exact ⟨_, by rw [Ht.out]; rfl, by rw [Ht.out]; exact Own.nil _ _ _, Below.refl _ _⟩
      · have Ht := hide (text_fine bs most n k Hr.out (by rw [← HM.out]; exact h2) h3)
        have hpos : 0 < bs.length := by omega
        obtain ⟨b, o, rfl, _, _⟩ := Hs.out.2 hpos
        have hx : ((bs.drop k).take n).length = n := by rw [List.length_take, List.length_drop]; omega
        have Hx := hide hx
        have hsx := sl_take (Hs.out.cut (k := k) hkl) (k := n) (by rw [List.length_drop]; omega)
        clear hx
        by_cases hck : c = k
        · subst hck
          rw [if_pos rfl, Nat.sub_self] at hsx
          have Hsx := hide hsx
          clear hsx
          go_enter Tryz.func74, Tryz.ntmps74
          go_wp2_with (go_at_call 89; go_loud (refine Hnum.out.mono ?_; rintro e w1 ⟨rfl, rfl⟩; simp only [numV]))
          refine (clone_of _ n Hx.out _ _ _ _ Hsx.out (by rw [Hx.out]; omega)).mono ?_
          rintro e w1 ⟨v1, rfl, hown1, hb1⟩
          go_wp2
          go_ret3
          rw [Ht.out]
          exact ⟨_, by push_cast; rfl, hown1, hb1⟩
        · rw [if_neg hck] at hsx
          simp only [Option.map_some, Addr.add_mid] at hsx
          have Hsx := hide hsx
          clear hsx
          have Hck := hide hck
          go_enter Tryz.func74, Tryz.ntmps74
          go_wp2_with (go_at_call 89; go_loud (refine Hnum.out.mono ?_; rintro e w1 ⟨rfl, rfl⟩; simp only [numV]))
          refine (clone_of _ n Hx.out _ _ _ _ Hsx.out (by rw [Hx.out]; omega)).mono ?_
          rintro e w1 ⟨v1, rfl, hown1, hb1⟩
          go_wp2
          go_ret3
          rw [Ht.out]
          exact ⟨_, by push_cast; rfl, hown1, hb1⟩
  · have Ht := hide (text_bad bs most (by rw [hr]; exact he))
    have Hf := hide (numOf_fail bs n k e hr he)
    go_enter Tryz.func74, Tryz.ntmps74
    go_wp2_with (go_at_call 89; go_loud (refine Hnum.out.mono ?_; rintro e w1 ⟨rfl, rfl⟩; simp only [numV]))
    go_ret3
    rw [Ht.out, hr]
    exact ⟨_, rfl, Own.nil _ _ _, Below.refl _ _⟩
end Go.Proofs.YtahcokfoifdlmaaGreatDoor.Wr
namespace Go.Proofs.YtahcokfoifdlmaaGreatDoor.Rg
open Go

section
variable {P : Program} {ops : Array Oper} {Q : Exit → Act → World → Prop} {S : World → Prop}

def wpOrd (P : Program) (ops : Array Oper) (Q : Exit → Act → World → Prop) (S : World → Prop) : List (Nat × Oper × Bool) → Act → World → Prop
  | [], a, w => Q .normal a w
  | (_, o, true) :: rest, a, w => ∃ v, YieldsIf P ops S o v a ∧ S w ∧ wpOrd P ops Q S rest (a.put o.dst v) w
  | (n, o, false) :: rest, a, w => (if Region.wanted o (yielded ops a.tmps) then o.wp P a w (fun a' w' => (sink ops n = false → S w') ∧ wpOrd P ops Q S rest a' w') Q else ((sink ops n = false → S w) ∧ wpOrd P ops Q S rest (a.put o.dst undef) w))

def ordFrom (ops : Array Oper) : Array Bool → List (Nat × Bool) → Bool
  | listed, [] => (Region.ready .any ops listed).isEmpty
  | listed, (n, q) :: rest => decide (n < ops.size) && (if q then (Region.ready .any ops listed).contains n && Region.free .any ops listed n && closed ops listed else Region.ready .any ops listed == [n]) && ordFrom ops (listed.setIfInBounds n true) rest
def ordPlan (ops : Array Oper) (order : List (Nat × Bool)) : Bool := inside ops && Region.noSelect ops && order.length == ops.size && ordFrom ops (Array.replicate ops.size false) order
def pick (l : List Oper) (order : List (Nat × Bool)) : List (Nat × Oper × Bool) := order.map fun x => (x.1, l.getD x.1 default, x.2)

theorem ord_sound {l : List Oper} (he : ops = l.toArray) (hin : inside ops = true) (hsel : ∀ (j : Nat) (o : Oper) cs b, ops[j]? = some o → o.op ≠ .select cs b) (hQ : ∀ c a d v w, Q (.panic c) (Act.put a d v) w → Q (.panic c) a w) :
    ∀ (order : List (Nat × Bool)) (listed : Array Bool) (a : Act) (w : World), ordFrom ops listed order = true →
      wpOrd P ops Q S (pick l order) a w → wpAnyS P ops Q S order.length listed a w
  | [], listed, a, w, hp, h => by
    simp only [ordFrom, List.isEmpty_iff] at hp
    exact ⟨hp, h⟩
  | (n, q) :: rest, listed, a, w, hp, h => by
    simp only [ordFrom, Bool.and_eq_true, decide_eq_true_eq] at hp
    obtain ⟨⟨hlt, hp1⟩, hp3⟩ := hp
    have hi : ops[n]? = some (l.getD n default) := by
      subst he
      have : n < l.length := by simpa using hlt
      simp [List.getElem?_eq_getElem this]
    have e : pick l ((n, q) :: rest) = (n, l.getD n default, q) :: pick l rest := rfl
    rw [e] at h
    cases q with
    | true =>
      simp only [if_true, Bool.and_eq_true] at hp1
      obtain ⟨v, hy, hS, h⟩ := h
      have ih := ord_sound he hin hsel hQ rest _ _ w hp3 h
      exact S_first hi hsel (fun c a w => hQ c a _ _ w) _ _ _ _ (Region.free_spec hi hp1.1.2) (by simpa using hp1.1.1) (closed_spec hp1.2 (inside_spec hin)) hy hS ih
    | false =>
      simp only [Bool.false_eq_true, if_false, beq_iff_eq] at hp1
      refine ⟨fun h0 => (by rw [h0] at hp1; cases hp1), fun i hii => ?_⟩
      rw [hp1] at hii
      obtain rfl := List.mem_singleton.1 hii
      unfold wpOp
      simp only [hi]
      simp only [wpOrd] at h
      have step : ∀ a' w', ((sink ops i = false → S w') ∧ wpOrd P ops Q S (pick l rest) a' w') →
          (sink ops i = false → S w') ∧ wpAnyS P ops Q S rest.length (listed.setIfInBounds i true) a' w' := fun a' w' h' =>
        ⟨h'.1, ord_sound he hin hsel hQ rest _ a' w' hp3 h'.2⟩
      split
      · rename_i hw
        rw [if_pos hw] at h
        exact .inl (Oper.wp_mono step h)
      · rename_i hw
        rw [if_neg hw] at h
        exact step _ _ h

/-- THE REGION, WALKED IN THE ORDER THAT IS GIVEN. -/
theorem wp_region_ord {id : Nat} {l : List Oper} {a : Act} {w : World} (S : World → Prop) (order : List (Nat × Bool)) (hm : P.follows .mixedOrders = true) (hp : ordPlan l.toArray order = true)
    (h : wpOrd P l.toArray (NoPanic Q) S (pick l order) a w.drew) : (Code.region id l.toArray true).wp P Q a w := by
  refine wp_region_noPanic ?_
  simp only [ordPlan, Bool.and_eq_true, beq_iff_eq] at hp
  obtain ⟨⟨⟨h0, h1⟩, h2⟩, h3⟩ := hp
  refine wp_region_any hm (any_of_S (S := S) _ _ _ _ ?_)
  have := ord_sound (P := P) (S := S) rfl h0 (Region.noSelect_spec h1) (fun _ _ _ _ _ h => h) order _ a w.drew h3 h
  rw [h2] at this
  exact this

theorem ord_quiet {n : Nat} {o : Oper} {rest : List (Nat × Oper × Bool)} {a : Act} {w : World} {v : Value} (hg : o.guard = none) (hy : ∀ w', S w' → (execOp a.eval o).run P w' = .ok (.value v) w') (hS : S w)
    (h : wpOrd P ops Q S rest (a.put o.dst v) w) : wpOrd P ops Q S ((n, o, true) :: rest) a w :=
  ⟨v, .inl ⟨by simp [Region.wanted, hg], hy⟩, hS, h⟩
/-- one whose guard says no -/
theorem ord_passed {n : Nat} {o : Oper} {rest : List (Nat × Oper × Bool)} {a : Act} {w : World} (hg : Region.wanted o (yielded ops a.tmps) = false) (hS : S w)
    (h : wpOrd P ops Q S rest (a.put o.dst undef) w) : wpOrd P ops Q S ((n, o, true) :: rest) a w :=
  ⟨undef, .inr ⟨hg, rfl⟩, hS, h⟩
/-- one whose guard says yes -/
theorem ord_guarded {n : Nat} {o : Oper} {rest : List (Nat × Oper × Bool)} {a : Act} {w : World} {v : Value} (hg : Region.wanted o (yielded ops a.tmps) = true) (hy : ∀ w', S w' → (execOp a.eval o).run P w' = .ok (.value v) w') (hS : S w)
    (h : wpOrd P ops Q S rest (a.put o.dst v) w) : wpOrd P ops Q S ((n, o, true) :: rest) a w :=
  ⟨v, .inl ⟨hg, hy⟩, hS, h⟩
theorem ord_loud {n : Nat} {o : Oper} {rest : List (Nat × Oper × Bool)} {a : Act} {w : World} (hg : Region.wanted o (yielded ops a.tmps) = true)
    (h : ∀ K : Act → World → Prop, (∀ a' w', (sink ops n = false → S w') → wpOrd P ops Q S rest a' w' → K a' w') → o.wp P a w K Q) : wpOrd P ops Q S ((n, o, false) :: rest) a w := by
  simp only [wpOrd]
  rw [if_pos hg]
  exact h _ fun a' w' h1 h2 => ⟨h1, h2⟩
open Kt Go.RowKit in
theorem ord_push {n : Nat} {o : Oper} {rest : List (Nat × Oper × Bool)} {a : Act} {w : World} {cs : Array Value} {E : TypeId} (W : World) (hW : w = W.alloc (.cells cs E))
    (hgd : o.guard = none) (s x : Operand) (t : TypeId) (ho : o.op = .call { callee := .builtin .append, args := #[s, x], argTypes := #[t, t] })
    (ht : P.underlying t = some (.slice E)) (hi : (P.info? E).map (fun i => (i.zero, i.size, i.bytes)) = some (some (.int .u8 0), 1, 1))
    (B : Nat) (w0 : World) (v : Value) (l news : List UInt8) (m c : Nat) (hs : a.eval s = v) (hx : a.eval x = .slice (some ⟨W.heap.size, 0, none⟩) m c)
    (hown : Own W B E v l) (hc : cs = (u8s news).toArray) (hm : m = news.length) (hlen : l.length + news.length ≤ 70368744177664) (hb : Below B w0 W) (hbase : B ≤ W.heap.size)
    (h : ∀ v' w', Own w' B E v' (l ++ news) → Below B w0 w' → W.grownBy w' v.ownBlock → (sink ops n = false → S w') ∧ wpOrd P ops Q S rest (a.put o.dst v') w') : wpOrd P ops Q S ((n, o, false) :: rest) a w := by
  subst hW
  exact ord_loud (by simp [Region.wanted, hgd]) fun K hK => wp_push s x t ho ht hi B w0 v l news m c hs hx hown hc hm hlen hb hbase fun v' w' h1 h2 h3 => hK _ _ (h v' w' h1 h2 h3).1 (h v' w' h1 h2 h3).2
theorem ord_nil {a : Act} {w : World} (h : Q .normal a w) : wpOrd P ops (NoPanic Q) S [] a w := NoPanic.normal h
end
end Go.Proofs.YtahcokfoifdlmaaGreatDoor.Rg

namespace Go.Proofs.YtahcokfoifdlmaaGreatDoor.Wr
open Go Go.RowKit Kt

/-- nothing that was there has turned but the blocks of S -/
structure Only (S : Nat → Prop) (w w' : World) : Prop where
  os : w'.os = w.os
  tape : w'.tape = w.tape
  output : w'.output = w.output
  size : w.heap.size ≤ w'.heap.size
  block : ∀ k, k < w.heap.size → ¬ S k → w'.heap[k]? = w.heap[k]?
theorem Only.refl (S : Nat → Prop) (w : World) : Only S w w := ⟨rfl, rfl, rfl, Nat.le_refl _, fun _ _ _ => rfl⟩
theorem Only.trans {S : Nat → Prop} {a b c : World} (h : Only S a b) (k : Only S b c) : Only S a c :=
  ⟨k.os.trans h.os, k.tape.trans h.tape, k.output.trans h.output, Nat.le_trans h.size k.size, fun i hi hn => (k.block i (Nat.lt_of_lt_of_le hi h.size) hn).trans (h.block i hi hn)⟩
theorem Only.mono {S T : Nat → Prop} {a b : World} (h : Only S a b) (hi : ∀ k, k < a.heap.size → S k → T k) : Only T a b := ⟨h.os, h.tape, h.output, h.size, fun i hl hn => h.block i hl fun hs => hn (hi i hl hs)⟩
theorem Only.of_below {a b : World} (S : Nat → Prop) (h : Below a.heap.size a b) : Only S a b := ⟨h.os, h.tape, h.output, h.size, fun i hl _ => h.block i hl⟩
theorem Only.below {S : Nat → Prop} {B : Nat} {w0 a b : World} (h : Only S a b) (hb : Below B w0 a) (hB : B ≤ a.heap.size) (hS : ∀ k, k < B → ¬ S k) : Below B w0 b :=
  ⟨h.os.trans hb.os, h.tape.trans hb.tape, h.output.trans hb.output, Nat.le_trans hb.size h.size, fun k hk => (h.block k (by omega) (hS k hk)).trans (hb.block k hk)⟩
theorem Only.drew {S : Nat → Prop} {a b : World} (h : Only S a b) : Only S a b.drew := ⟨h.os, h.tape, h.output, h.size, h.block⟩
theorem Only.put {S : Nat → Prop} {a b : World} (h : Only S a b) {g i : Nat} (hg : S g) (u : Value) : Only S a (b.setCell ⟨g, i, none⟩ u) :=
  ⟨h.os, h.tape, h.output, by simpa [World.setCell] using h.size, fun k hk hn => (Below.heap_setCell b ⟨g, i, none⟩ u k (fun e => hn (by rw [e]; exact hg))).trans (h.block k hk hn)⟩
theorem _root_.Go.Proofs.YtahcokfoifdlmaaGreatDoor.Kt.Row.only {S : Nat → Prop} {w w' : World} {g : Nat} {t : TypeId} {cs : List Value} (h : Row w g t cs) (ho : Only S w w') (hg : ¬ S g) : Row w' g t cs := (ho.block g h.lt hg).trans h
theorem _root_.Go.Proofs.YtahcokfoifdlmaaGreatDoor.Kt.Sl.only {S P : Nat → Prop} {w w' : World} {A : Option Addr} {c : Nat} {bs : List UInt8} (h : Sl w P A c bs) (ho : Only S w w') (hp : ∀ b, P b → ¬ S b) : Sl w' P A c bs := h.move fun b hb hlt => ho.block b hlt (hp b hb)

/-- a slice's rest -/
def cutV (A : Option Addr) (n c k : Nat) : Value := .slice (if c = k then A else A.map (·.add k)) (n - k) (c - k)
theorem run_cut (w : World) (A : Option Addr) (n c k : Nat) (hk : k ≤ n) (_hn : n ≤ c) :
    (Instr.slice 39 (.slice A n c) (some (.int .i64 (k : Int))) none none).run Tryz.prog w = .ok (cutV A n c k) w := by
  have hu := run_underlying Tryz.underlying39
  unfold cutV
  cases A with
  | none =>
    go_simp
  | some ad =>
    go_simp

set_option maxHeartbeats 2000000 in
set_option maxRecDepth 100000 in
theorem num_clo (bs : List UInt8) (A : Option Addr) (c g br bn x n k e : Nat) (Pb : Nat → Prop) (w : World) (hr : Row w br 74 [.pointer (some ⟨g, 0, none⟩)]) (hn : Row w bn 95 [.int .u64 (x : Int)])
    (hg : Row w g 121 [.slice A bs.length c, .int .i64 0]) (hs : Sl w Pb A c bs) (_hP : ∀ b, Pb b → b ≠ bn) (hnr : bn ≠ br) (hgr : g ≠ br) (hgn : g ≠ bn)
    (hl : bs.length ≤ 70368744177664) (hnum : numOf bs = (n, k, e)) :
    Calls Tryz.prog 88 #[.pointer (some ⟨br, 0, none⟩), .pointer (some ⟨bn, 0, none⟩)] w fun y w' => y = .returned (.int .i64 (e : Int)) ∧
      Row w' bn 95 [.int .u64 (n : Int)] ∧ Row w' g 121 [cutV A bs.length c k, .int .i64 (e : Int)] ∧ Only (fun b => b = g ∨ b = bn) w w' := by
  have hkl : k ≤ bs.length := by
    by_cases he : e = 0
    · subst he; exact (numOf_ok bs n k hnum).2.2.2.1
    · have := numOf_fail bs n k e hnum he; omega
  have hcut := fun w => run_cut w A bs.length c k hkl hs.1
  obtain ⟨A2, hA2⟩ : ∃ A2, (if c = k then A else A.map (·.add k)) = A2 := ⟨_, rfl⟩
  have hV : cutV A bs.length c k = .slice A2 (bs.length - k) (c - k) := by unfold cutV; rw [hA2]
  rw [hV] at hcut ⊢
  clear hV hA2
  have Hcut := hide hcut
  have Hs := hide hs
  have Hr := hide hr
  have Hn := hide hn
  have Hg := hide hg
  have c1 : w.cell? ⟨br, 0, none⟩ = some (.pointer (some ⟨g, 0, none⟩)) := hr.cell 0
  have c2 : w.cell? ⟨g, 0, none⟩ = some (.slice A bs.length c) := hg.cell 0
  have c3 : w.cell? ⟨g, 1, none⟩ = some (.int .i64 0) := hg.cell 1
  have c4 : w.cell? ⟨bn, 0, none⟩ = some (.int .u64 (x : Int)) := hn.cell 0
  have f1 := hg.free 0
  have f2 := hg.free 1
  have f3 := hn.free 0
  clear hr hn hg hs hcut
  go_enter Tryz.func88, Tryz.ntmps88
  go_wp2
  refine Rg.wp_region_ord (fun w' => w'.cell? ⟨br, 0, none⟩ = some (.pointer (some ⟨g, 0, none⟩)) ∧ w'.cell? ⟨g, 0, none⟩ = some (.slice A bs.length c)) [(0, true), (1, true), (2, true), (3, true), (4, true), (5, false), (6, true), (7, true), (8, true), (9, true), (10, false), (11, true), (12, true), (13, true), (14, false)] (by kernel_rfl) (by kernel_rfl) ?_
  simp only [Rg.pick, List.map_cons, List.map_nil, List.getD_cons_zero, List.getD_cons_succ]
  iterate 5 (refine Rg.ord_quiet (v := ?_) rfl (fun w' hS => ?_) ⟨c1, c2⟩ ?_; rotate_left; (obtain ⟨s1, s2⟩ := hS; go_simp; with_reducible rfl); simp only [Act.put, List.setIfInBounds_toArray, List.set_cons_succ, List.set_cons_zero])
  refine Rg.ord_loud rfl (fun K hK => ?_)
  go_simp
  refine (number_any bs A c Pb w.drew Hs.out hl).mono ?_
  rintro y w1 ⟨rfl, rfl⟩
  refine hK _ _ (fun _ => ⟨c1, c2⟩) ?_
  clear hK K
  rw [hnum]
  simp only [numV]
  iterate 4 (refine Rg.ord_quiet (v := ?_) rfl (fun w' hS => ?_) ⟨c1, c2⟩ ?_; rotate_left; (obtain ⟨s1, s2⟩ := hS; go_simp; with_reducible rfl); simp only [Act.put, List.setIfInBounds_toArray, List.set_cons_succ, List.set_cons_zero])
  refine Rg.ord_loud rfl (fun K hK => ?_)
  go_simp
  have hn2 := Hn.out.put 0 (.int .u64 (n : Int))
  have hg2 := Hg.out.off hgn (i := 0) (.int .u64 (n : Int))
  have hr2 := Hr.out.off (Ne.symm hnr) (i := 0) (.int .u64 (n : Int))
  have ho2 := (Only.refl (fun b => b = g ∨ b = bn) w).put (g := bn) (i := 0) (.inr rfl) (.int .u64 (n : Int))
  obtain ⟨w2, hw2⟩ : ∃ w2, w2 = w.setCell ⟨bn, 0, none⟩ (.int .u64 (n : Int)) := ⟨_, rfl⟩
  rw [← hw2] at hn2 hg2 hr2 ho2 ⊢
  have Hn2 := hide hn2
  have Hg2 := hide hg2
  have Hr2 := hide hr2
  have Ho2 := hide ho2
  clear hw2 c1 c2 c3 c4 f1 f2 f3
  have c1 : w2.cell? ⟨br, 0, none⟩ = some (.pointer (some ⟨g, 0, none⟩)) := hr2.cell 0
  have c2 : w2.cell? ⟨g, 0, none⟩ = some (.slice A bs.length c) := hg2.cell 0
  have c3 : w2.cell? ⟨g, 1, none⟩ = some (.int .i64 0) := hg2.cell 1
  have f2 := hg2.free 1
  clear hn2 hg2 hr2 ho2
  refine hK _ _ (fun _ => ⟨c1, c2⟩) ?_
  clear hK K
  iterate 3 (refine Rg.ord_quiet (v := ?_) rfl (fun w' hS => ?_) ⟨c1, c2⟩ ?_; rotate_left; (obtain ⟨s1, s2⟩ := hS; go_simp; with_reducible rfl); simp only [Act.put, List.setIfInBounds_toArray, List.set_cons_succ, List.set_cons_zero])
  refine Rg.ord_loud rfl (fun K hK => ?_)
  go_simp
  have hn3 := Hn2.out.off (Ne.symm hgn) (i := 1) (.int .i64 (e : Int))
  have hg3 := Hg2.out.put 1 (.int .i64 (e : Int))
  have hr3 := Hr2.out.off (Ne.symm hgr) (i := 1) (.int .i64 (e : Int))
  have ho3 := Ho2.out.put (g := g) (i := 1) (.inl rfl) (.int .i64 (e : Int))
  obtain ⟨w3, hw3⟩ : ∃ w3, w3 = w2.setCell ⟨g, 1, none⟩ (.int .i64 (e : Int)) := ⟨_, rfl⟩
  rw [← hw3] at hn3 hg3 hr3 ho3 ⊢
  have Hn3 := hide hn3
  have Hg3 := hide hg3
  have Ho3 := hide ho3
  have Hr3 := hide hr3
  clear hw3 c1 c2 c3 f2
  have c1 : w3.cell? ⟨br, 0, none⟩ = some (.pointer (some ⟨g, 0, none⟩)) := hr3.cell 0
  have c2 : w3.cell? ⟨g, 0, none⟩ = some (.slice A bs.length c) := hg3.cell 0
  have c3 : w3.cell? ⟨g, 1, none⟩ = some (.int .i64 (e : Int)) := hg3.cell 1
  have f1 := hg3.free 0
  clear hn3 hg3 hr3 ho3
  refine hK _ _ (fun _ => ⟨c1, c2⟩) ?_
  clear hK K
  refine Rg.ord_nil ?_
  go_wp2
  refine Rg.wp_region_ord (fun w' => w'.cell? ⟨br, 0, none⟩ = some (.pointer (some ⟨g, 0, none⟩)) ∧ w'.cell? ⟨g, 0, none⟩ = some (.slice A bs.length c)) [(0, true), (1, true), (2, true), (3, true), (4, true), (5, true), (6, true), (7, true), (8, true), (9, false)] (by kernel_rfl) (by kernel_rfl) ?_
  simp only [Rg.pick, List.map_cons, List.map_nil, List.getD_cons_zero, List.getD_cons_succ]
  iterate 6 (refine Rg.ord_quiet (v := ?_) rfl (fun w' hS => ?_) ⟨c1, c2⟩ ?_; rotate_left; (obtain ⟨s1, s2⟩ := hS; go_simp; with_reducible rfl); simp only [Act.put, List.setIfInBounds_toArray, List.set_cons_succ, List.set_cons_zero])
  refine Rg.ord_quiet (v := .slice A2 (bs.length - k) (c - k)) rfl (fun w' hS => ?_) ⟨c1, c2⟩ ?_
  · have hq := Hcut.out w'
    clear hS
    go_simp
  simp only [Act.put, List.setIfInBounds_toArray, List.set_cons_succ, List.set_cons_zero]
  iterate 2 (refine Rg.ord_quiet (v := ?_) rfl (fun w' hS => ?_) ⟨c1, c2⟩ ?_; rotate_left; (obtain ⟨s1, s2⟩ := hS; go_simp; with_reducible rfl); simp only [Act.put, List.setIfInBounds_toArray, List.set_cons_succ, List.set_cons_zero])
  refine Rg.ord_loud rfl (fun K hK => ?_)
  go_simp
  have hr4 := Hr3.out.off (Ne.symm hgr) (i := 0) (.slice A2 (bs.length - k) (c - k))
  have hn4 := Hn3.out.off (Ne.symm hgn) (i := 0) (.slice A2 (bs.length - k) (c - k))
  have hg4 := Hg3.out.put 0 (.slice A2 (bs.length - k) (c - k))
  have ho4 := Ho3.out.put (g := g) (i := 0) (.inl rfl) (.slice A2 (bs.length - k) (c - k))
  obtain ⟨w4, hw4⟩ : ∃ w4, w4 = w3.setCell ⟨g, 0, none⟩ (.slice A2 (bs.length - k) (c - k)) := ⟨_, rfl⟩
  rw [← hw4] at hr4 hn4 hg4 ho4 ⊢
  have Hn4 := hide hn4
  have Hg4 := hide hg4
  have Ho4 := hide ho4
  clear hw4 c2 c3 f1
  have c1 : w4.cell? ⟨br, 0, none⟩ = some (.pointer (some ⟨g, 0, none⟩)) := hr4.cell 0
  have c3 : w4.cell? ⟨g, 1, none⟩ = some (.int .i64 (e : Int)) := hg4.cell 1
  clear hr4 hn4 hg4 ho4
  refine hK _ _ (fun hf => absurd (show Rg.sink _ 9 = true from by kernel_rfl) (by rw [hf]; decide)) ?_
  clear hK K
  refine Rg.ord_nil ?_
  go_wp2
  go_ret
  exact ⟨rfl, Hn4.out, Hg4.out, Ho4.out.drew.drew⟩
end Go.Proofs.YtahcokfoifdlmaaGreatDoor.Wr

namespace Go.Proofs.YtahcokfoifdlmaaGreatDoor.Wr
open Go Go.RowKit Kt

theorem text_le (bs : List UInt8) (most : Int) : (textOf bs most).2.1 ≤ bs.length := by
  unfold textOf
  split
  · simp
  · split
    · simp
    · split
      · simp
      · rename_i h1 _ h3
        have he : (numOf bs).2.2 = 0 := by omega
        have := numOf_ok bs (numOf bs).1 (numOf bs).2.1 (by rw [← he])
        simp only
        omega
theorem own_put {w : World} {B g i : Nat} {E : TypeId} {v : Value} {l : List UInt8} (h : Own w B E v l) (hg : g < B) (u : Value) : Own (w.setCell ⟨g, i, none⟩ u) B E v l := by
  refine ⟨h.1, ?_⟩
  rcases h.2 with ⟨h1, h2⟩ | ⟨b, cap, cur, hv', h1, h2, h3⟩
  · exact .inl ⟨h1, h2⟩
  · exact .inr ⟨b, cap, cur, hv', h1, (Below.heap_setCell w ⟨g, i, none⟩ u b (by simp only; omega)).trans h2, h3⟩

set_option maxHeartbeats 2000000 in
set_option maxRecDepth 100000 in
theorem text_clo (bs x : List UInt8) (most : Int) (v0 : Value) (A : Option Addr) (c g br bm bn k e : Nat) (Pb : Nat → Prop) (w : World) (hr : Row w br 74 [.pointer (some ⟨g, 0, none⟩)]) (hm : Row w bm 3 [.int .i64 most]) (hn : Row w bn 39 [v0]) (_hv0 : v0.oneCell' = true)
    (hg : Row w g 121 [.slice A bs.length c, .int .i64 0]) (hs : Sl w Pb A c bs) (_hP : ∀ b, Pb b → b ≠ bn) (hnr : bn ≠ br) (hnm : bn ≠ bm) (hgm : g ≠ bm) (hgr : g ≠ br) (hgn : g ≠ bn)
    (hl : bs.length ≤ 70368744177664) (hm63 : most ≤ 9223372036854775807) (htx : textOf bs most = (x, k, e)) :
    Calls Tryz.prog 73 #[.pointer (some ⟨br, 0, none⟩), .pointer (some ⟨bm, 0, none⟩), .pointer (some ⟨bn, 0, none⟩)] w fun y w' => y = .returned (.int .i64 (e : Int)) ∧
      (∃ v, Own w' w.heap.size 5 v x ∧ Row w' bn 39 [v]) ∧ Row w' g 121 [cutV A bs.length c k, .int .i64 (e : Int)] ∧ Only (fun b => b = g ∨ b = bn) w w' := by
  have hkl : k ≤ bs.length := by
    have := text_le bs most
    rw [htx] at this
    exact this
  have hcut := fun w => run_cut w A bs.length c k hkl hs.1
  obtain ⟨A2, hA2⟩ : ∃ A2, (if c = k then A else A.map (·.add k)) = A2 := ⟨_, rfl⟩
  have hV : cutV A bs.length c k = .slice A2 (bs.length - k) (c - k) := by unfold cutV; rw [hA2]
  rw [hV] at hcut ⊢
  clear hV hA2
  have Hcut := hide hcut
  have Hs := hide hs
  have Htx := hide htx
  have Hm63 := hide hm63
  have Hm := hide hm
  have cm : w.cell? ⟨bm, 0, none⟩ = some (.int .i64 most) := hm.cell 0
  have Hr := hide hr
  have Hn := hide hn
  have Hg := hide hg
  have c1 : w.cell? ⟨br, 0, none⟩ = some (.pointer (some ⟨g, 0, none⟩)) := hr.cell 0
  have c2 : w.cell? ⟨g, 0, none⟩ = some (.slice A bs.length c) := hg.cell 0
  have c3 : w.cell? ⟨g, 1, none⟩ = some (.int .i64 0) := hg.cell 1
  have c4 : w.cell? ⟨bn, 0, none⟩ = some v0 := hn.cell 0
  have f1 := hg.free 0
  have f2 := hg.free 1
  have f3 := hn.free 0
  clear hr hm hn hg hs hcut htx hm63
  go_enter Tryz.func73, Tryz.ntmps73
  go_wp2
  refine Rg.wp_region_ord (fun w' => w'.cell? ⟨br, 0, none⟩ = some (.pointer (some ⟨g, 0, none⟩)) ∧ w'.cell? ⟨g, 0, none⟩ = some (.slice A bs.length c) ∧ w'.cell? ⟨bm, 0, none⟩ = some (.int .i64 most)) [(0, true), (1, true), (2, true), (3, true), (4, true), (5, true), (6, false), (7, true), (8, true), (9, true), (10, true), (11, false), (12, true), (13, true), (14, true), (15, false)] (by kernel_rfl) (by kernel_rfl) ?_
  simp only [Rg.pick, List.map_cons, List.map_nil, List.getD_cons_zero, List.getD_cons_succ]
  iterate 6 (refine Rg.ord_quiet (v := ?_) rfl (fun w' hS => ?_) ⟨c1, c2, cm⟩ ?_; rotate_left; (obtain ⟨s1, s2, s3⟩ := hS; go_simp; with_reducible rfl); simp only [Act.put, List.setIfInBounds_toArray, List.set_cons_succ, List.set_cons_zero])
  refine Rg.ord_loud rfl (fun K hK => ?_)
  go_simp
  refine (text_any bs most A c Pb w.drew Hs.out hl Hm63.out).mono ?_
  rintro y w1 ⟨v, rfl, hown, hb⟩
  obtain ⟨Ax, cx, rfl, _⟩ := Is.own hown
  rw [Htx.out] at hown ⊢
  have Hb : Hid (Below w.heap.size w w1) := hide ⟨hb.os, hb.tape, hb.output, hb.size, hb.block⟩
  have Hown := hide hown
  have Hr1 := hide (Hr.out.below Hb.out Hr.out.lt)
  have Hn1 := hide (Hn.out.below Hb.out Hn.out.lt)
  have Hg1 := hide (Hg.out.below Hb.out Hg.out.lt)
  have Hm1 := hide (Hm.out.below Hb.out Hm.out.lt)
  clear c1 c2 c3 c4 f1 f2 f3 cm hown hb
  have c1 : w1.cell? ⟨br, 0, none⟩ = some (.pointer (some ⟨g, 0, none⟩)) := Hr1.out.cell 0
  have c2 : w1.cell? ⟨g, 0, none⟩ = some (.slice A bs.length c) := Hg1.out.cell 0
  have cm : w1.cell? ⟨bm, 0, none⟩ = some (.int .i64 most) := Hm1.out.cell 0
  have c4 : w1.cell? ⟨bn, 0, none⟩ = some v0 := Hn1.out.cell 0
  have f3 := Hn1.out.free 0
  refine hK _ _ (fun _ => ⟨c1, c2, cm⟩) ?_
  clear hK K
  iterate 4 (refine Rg.ord_quiet (v := ?_) rfl (fun w' hS => ?_) ⟨c1, c2, cm⟩ ?_; rotate_left; (obtain ⟨s1, s2, s3⟩ := hS; go_simp; with_reducible rfl); simp only [Act.put, List.setIfInBounds_toArray, List.set_cons_succ, List.set_cons_zero])
  refine Rg.ord_loud rfl (fun K hK => ?_)
  go_simp
  have hn2 := Hn1.out.put 0 (.slice Ax x.length cx)
  have hg2 := Hg1.out.off hgn (i := 0) (.slice Ax x.length cx)
  have hm2 := Hm1.out.off (Ne.symm hnm) (i := 0) (.slice Ax x.length cx)
  have hv2 := own_put Hown.out (g := bn) (i := 0) Hn.out.lt (.slice Ax x.length cx)
  have hr2 := Hr1.out.off (Ne.symm hnr) (i := 0) (.slice Ax x.length cx)
  have ho2 := (Only.of_below (fun b => b = g ∨ b = bn) Hb.out).put (g := bn) (i := 0) (.inr rfl) (.slice Ax x.length cx)
  obtain ⟨w2, hw2⟩ : ∃ w2, w2 = w1.setCell ⟨bn, 0, none⟩ (.slice Ax x.length cx) := ⟨_, rfl⟩
  rw [← hw2] at hn2 hg2 hr2 ho2 hm2 hv2 ⊢
  have Hv2 := hide hv2
  have Hm2 := hide hm2
  have Hn2 := hide hn2
  have Hg2 := hide hg2
  have Hr2 := hide hr2
  have Ho2 := hide ho2
  clear hw2 c1 c2 c4 f3 cm
  have c1 : w2.cell? ⟨br, 0, none⟩ = some (.pointer (some ⟨g, 0, none⟩)) := hr2.cell 0
  have c2 : w2.cell? ⟨g, 0, none⟩ = some (.slice A bs.length c) := hg2.cell 0
  have c3 : w2.cell? ⟨g, 1, none⟩ = some (.int .i64 0) := hg2.cell 1
  have f2 := hg2.free 1
  have cm : w2.cell? ⟨bm, 0, none⟩ = some (.int .i64 most) := hm2.cell 0
  clear hn2 hg2 hr2 ho2 hm2 hv2
  refine hK _ _ (fun _ => ⟨c1, c2, cm⟩) ?_
  clear hK K
  iterate 3 (refine Rg.ord_quiet (v := ?_) rfl (fun w' hS => ?_) ⟨c1, c2, cm⟩ ?_; rotate_left; (obtain ⟨s1, s2, s3⟩ := hS; go_simp; with_reducible rfl); simp only [Act.put, List.setIfInBounds_toArray, List.set_cons_succ, List.set_cons_zero])
  refine Rg.ord_loud rfl (fun K hK => ?_)
  go_simp
  have hn3 := Hn2.out.off (Ne.symm hgn) (i := 1) (.int .i64 (e : Int))
  have hg3 := Hg2.out.put 1 (.int .i64 (e : Int))
  have hm3 := Hm2.out.off (Ne.symm hgm) (i := 1) (.int .i64 (e : Int))
  have hv3 := own_put Hv2.out (g := g) (i := 1) Hg.out.lt (.int .i64 (e : Int))
  have hr3 := Hr2.out.off (Ne.symm hgr) (i := 1) (.int .i64 (e : Int))
  have ho3 := Ho2.out.put (g := g) (i := 1) (.inl rfl) (.int .i64 (e : Int))
  obtain ⟨w3, hw3⟩ : ∃ w3, w3 = w2.setCell ⟨g, 1, none⟩ (.int .i64 (e : Int)) := ⟨_, rfl⟩
  rw [← hw3] at hn3 hg3 hr3 ho3 hm3 hv3 ⊢
  have Hv3 := hide hv3
  have Hn3 := hide hn3
  have Hg3 := hide hg3
  have Ho3 := hide ho3
  have Hr3 := hide hr3
  clear hw3 c1 c2 c3 f2 cm
  have c1 : w3.cell? ⟨br, 0, none⟩ = some (.pointer (some ⟨g, 0, none⟩)) := hr3.cell 0
  have c2 : w3.cell? ⟨g, 0, none⟩ = some (.slice A bs.length c) := hg3.cell 0
  have c3 : w3.cell? ⟨g, 1, none⟩ = some (.int .i64 (e : Int)) := hg3.cell 1
  have f1 := hg3.free 0
  have cm : w3.cell? ⟨bm, 0, none⟩ = some (.int .i64 most) := hm3.cell 0
  clear hn3 hg3 hr3 ho3 hm3 hv3
  refine hK _ _ (fun _ => ⟨c1, c2, cm⟩) ?_
  clear hK K
  refine Rg.ord_nil ?_
  go_wp2
  refine Rg.wp_region_ord (fun w' => w'.cell? ⟨br, 0, none⟩ = some (.pointer (some ⟨g, 0, none⟩)) ∧ w'.cell? ⟨g, 0, none⟩ = some (.slice A bs.length c)) [(0, true), (1, true), (2, true), (3, true), (4, true), (5, true), (6, true), (7, true), (8, true), (9, false)] (by kernel_rfl) (by kernel_rfl) ?_
  simp only [Rg.pick, List.map_cons, List.map_nil, List.getD_cons_zero, List.getD_cons_succ]
  iterate 6 (refine Rg.ord_quiet (v := ?_) rfl (fun w' hS => ?_) ⟨c1, c2⟩ ?_; rotate_left; (obtain ⟨s1, s2⟩ := hS; go_simp; with_reducible rfl); simp only [Act.put, List.setIfInBounds_toArray, List.set_cons_succ, List.set_cons_zero])
  refine Rg.ord_quiet (v := .slice A2 (bs.length - k) (c - k)) rfl (fun w' hS => ?_) ⟨c1, c2⟩ ?_
  · have hq := Hcut.out w'
    clear hS
    go_simp
  simp only [Act.put, List.setIfInBounds_toArray, List.set_cons_succ, List.set_cons_zero]
  iterate 2 (refine Rg.ord_quiet (v := ?_) rfl (fun w' hS => ?_) ⟨c1, c2⟩ ?_; rotate_left; (obtain ⟨s1, s2⟩ := hS; go_simp; with_reducible rfl); simp only [Act.put, List.setIfInBounds_toArray, List.set_cons_succ, List.set_cons_zero])
  refine Rg.ord_loud rfl (fun K hK => ?_)
  go_simp
  have hv4 := own_put Hv3.out (g := g) (i := 0) Hg.out.lt (.slice A2 (bs.length - k) (c - k))
  have hr4 := Hr3.out.off (Ne.symm hgr) (i := 0) (.slice A2 (bs.length - k) (c - k))
  have hn4 := Hn3.out.off (Ne.symm hgn) (i := 0) (.slice A2 (bs.length - k) (c - k))
  have hg4 := Hg3.out.put 0 (.slice A2 (bs.length - k) (c - k))
  have ho4 := Ho3.out.put (g := g) (i := 0) (.inl rfl) (.slice A2 (bs.length - k) (c - k))
  obtain ⟨w4, hw4⟩ : ∃ w4, w4 = w3.setCell ⟨g, 0, none⟩ (.slice A2 (bs.length - k) (c - k)) := ⟨_, rfl⟩
  rw [← hw4] at hr4 hn4 hg4 ho4 hv4 ⊢
  have Hv4 := hide hv4
  have Hn4 := hide hn4
  have Hg4 := hide hg4
  have Ho4 := hide ho4
  clear hw4 c2 c3 f1
  have c1 : w4.cell? ⟨br, 0, none⟩ = some (.pointer (some ⟨g, 0, none⟩)) := hr4.cell 0
  have c3 : w4.cell? ⟨g, 1, none⟩ = some (.int .i64 (e : Int)) := hg4.cell 1
  clear hr4 hn4 hg4 ho4 hv4
  refine hK _ _ (fun hf => absurd (show Rg.sink _ 9 = true from by kernel_rfl) (by rw [hf]; decide)) ?_
  clear hK K
  refine Rg.ord_nil ?_
  go_wp2
  go_ret
  exact ⟨rfl, ⟨_, Hv4.out, Hn4.out⟩, Hg4.out, Ho4.out.drew⟩
end Go.Proofs.YtahcokfoifdlmaaGreatDoor.Wr
