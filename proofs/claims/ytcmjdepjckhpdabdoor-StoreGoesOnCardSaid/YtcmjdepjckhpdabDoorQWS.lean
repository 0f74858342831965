/-
  Slices of numbers, and of texts, that came in.
-/
import Derived.Test.YtcmjdepjckhpdabDoorLaw
import Derived.Test.YtcmjdepjckhpdabDoorKit
namespace Go.Proofs.YtcmjdepjckhpdabDoor.Lw
open Go Go.RowKit Go.WideShapes Go.ChangeShapes Go.ChangeAt Go.ChangeMaps Kt

/-- the slice '.slice A n c' reads as these values, which lie in a block of which P holds -/
def Vs (w : World) (P : Nat → Prop) (A : Option Addr) (c : Nat) (vs : List Value) : Prop :=
  vs.length ≤ c ∧ (0 < vs.length → ∃ b o, A = some ⟨b, o, none⟩ ∧ P b ∧ ∀ j v, vs[j]? = some v → w.cell? ⟨b, o + j, none⟩ = some v)
theorem Vs.move {w w' : World} {P : Nat → Prop} {A : Option Addr} {c : Nat} {vs : List Value} (h : Vs w P A c vs) (hk : ∀ b, P b → b < w.heap.size → w'.heap[b]? = w.heap[b]?) : Vs w' P A c vs :=
  ⟨h.1, fun hn => by
    obtain ⟨b, o, rfl, hp, hc⟩ := h.2 hn
    refine ⟨b, o, rfl, hp, fun j v hj => ?_⟩
    rw [World.cell?_of_block (w := w) (a := ⟨b, o + j, none⟩) (hk b hp (World.block_lt_of_cell? w ⟨b, o + j, none⟩ (hc j v hj)))]
    exact hc j v hj⟩
theorem Vs.below {w w' : World} {P : Nat → Prop} {A : Option Addr} {c : Nat} {vs : List Value} (h : Vs w P A c vs) (hb : Below w.heap.size w w') : Vs w' P A c vs := h.move fun b _ hlt => hb.block b hlt
def nums (k : IntKind) (l : List Int) : List Value := l.map (.int k)
def texts (l : List (List UInt8)) : List Value := l.map fun s => .string ⟨s.toArray⟩
theorem nums_len (k : IntKind) (l : List Int) : (nums k l).length = l.length := by simp [nums]
theorem texts_len (l : List (List UInt8)) : (texts l).length = l.length := by simp [texts]
theorem nums_at (k : IntKind) (l : List Int) (j : Nat) (h : j < l.length) : (nums k l)[j]? = some (.int k (l.getD j 0)) := by simp [nums, List.getElem?_eq_getElem h]
theorem texts_at (l : List (List UInt8)) (j : Nat) (h : j < l.length) : (texts l)[j]? = some (.string ⟨(l.getD j []).toArray⟩) := by simp [texts, List.getElem?_eq_getElem h]

section
variable {H : Type} {enc : TypeId × Value → H} {P : Program}
theorem open_nums {k : IntKind} {t e : TypeId} {W : World} {base : Nat} {v : Value} {d : DataW H} {ps : List MemPlace} (ht : P.underlying t = some (.slice e)) (he : P.underlying e = some (.int k)) (hc : P.cellsOf e = 1)
    (hval : Value.okWide P W .any base t v) (h : DataW.Trod enc P W 0 (fun _ => true) true t v d ps) :
    ∃ (l : List Int) (A : Option Addr) (c : Nat), v = .slice A l.length c ∧ (Vs W (fun _ => True) A c (nums k l) ∧ ∀ z ∈ l, (Lit.int k z).wf = true) ∧ l.length ≤ maxLen := by
  obtain ⟨a1, len, cap, rfl⟩ := okWide_slice ht hval
  obtain ⟨fuel, hf⟩ := h
  rcases open_ints ht he hc hf with ⟨hcs, hx⟩ | ⟨a, len', cap', zs, hcs, _, hl, hm, hz, hx, hcell, hwz⟩
  · simp [Value.cells] at hcs
    obtain ⟨rfl, rfl, rfl⟩ := hcs
    exact ⟨[], none, 0, rfl, ⟨⟨Nat.zero_le _, fun h => by simp [nums] at h⟩, fun z hz => by cases hz⟩, Nat.zero_le _⟩
  · simp [Value.cells] at hcs
    obtain ⟨rfl, rfl, rfl⟩ := hcs
    simp only [if_true] at hz
    have hlen : (zs.take len).length = len := by rw [List.length_take]; omega
    refine ⟨zs.take len, some a, cap, by rw [hlen], ⟨⟨by rw [nums_len, hlen]; exact hl, fun hn => ?_⟩, fun z hzm => hwz z (List.mem_of_mem_take hzm)⟩, by rw [hlen]; omega⟩
    rw [nums_len, hlen] at hn
    obtain ⟨ab, ao, spot⟩ := a
    have hspot : spot = none := by simpa [Addr.add] using World.cell?_spot (hcell 0 (by omega))
    subst hspot
    refine ⟨ab, ao, rfl, trivial, fun j v hj => ?_⟩
    have hjl : j < len := by have := (List.getElem?_eq_some_iff.1 hj).1; rw [nums_len, hlen] at this; exact this
    have hcj := hcell j (by omega)
    rw [Addr.add_mid] at hcj
    rw [hcj, ← hj, nums_at _ _ _ (by rw [hlen]; exact hjl)]
    simp [List.getD_eq_getElem?_getD, hjl]
theorem open_texts {t e : TypeId} {W : World} {base : Nat} {v : Value} {d : DataW H} {ps : List MemPlace} (ht : P.underlying t = some (.slice e)) (he : P.underlying e = some .string) (hc : P.cellsOf e = 1)
    (hval : Value.okWide P W .any base t v) (h : DataW.Trod enc P W 0 (fun _ => true) true t v d ps) :
    ∃ (l : List (List UInt8)) (A : Option Addr) (c : Nat), v = .slice A l.length c ∧ (Vs W (fun _ => True) A c (texts l) ∧ ∀ s ∈ l, s.length ≤ maxLen) ∧ l.length ≤ maxLen := by
  obtain ⟨a1, len, cap, rfl⟩ := okWide_slice ht hval
  obtain ⟨fuel, hf⟩ := h
  rcases open_strings ht he hc hf with ⟨hcs, hx⟩ | ⟨a, len', cap', zs, hcs, _, hl, hm, hz, hx, hcell, hwz⟩
  · simp [Value.cells] at hcs
    obtain ⟨rfl, rfl, rfl⟩ := hcs
    exact ⟨[], none, 0, rfl, ⟨⟨Nat.zero_le _, fun h => by simp [texts] at h⟩, fun z hz => by cases hz⟩, Nat.zero_le _⟩
  · simp [Value.cells] at hcs
    obtain ⟨rfl, rfl, rfl⟩ := hcs
    simp only [if_true] at hz
    have hlen : ((zs.take len).map fun s => s.data.toList).length = len := by rw [List.length_map, List.length_take]; omega
    refine ⟨(zs.take len).map fun s => s.data.toList, some a, cap, by rw [hlen], ⟨⟨by rw [texts_len, hlen]; exact hl, fun hn => ?_⟩, fun z hzm => ?_⟩, by rw [hlen]; omega⟩
    · rw [texts_len, hlen] at hn
      obtain ⟨ab, ao, spot⟩ := a
      have hspot : spot = none := by simpa [Addr.add] using World.cell?_spot (hcell 0 (by omega))
      subst hspot
      refine ⟨ab, ao, rfl, trivial, fun j v hj => ?_⟩
      have hjl : j < len := by have := (List.getElem?_eq_some_iff.1 hj).1; rw [texts_len, hlen] at this; exact this
      have hcj := hcell j (by omega)
      rw [Addr.add_mid] at hcj
      rw [hcj, ← hj, texts_at _ _ (by rw [hlen]; exact hjl)]
      simp [List.getD_eq_getElem?_getD, hjl, List.getElem?_eq_getElem (show j < zs.length by omega)]
    · obtain ⟨s, hs, rfl⟩ := List.mem_map.1 hzm
      rw [Array.length_toList]
      exact hwz s (List.mem_of_mem_take hs)
end
end Go.Proofs.YtcmjdepjckhpdabDoor.Lw
namespace Go.Proofs.YtcmjdepjckhpdabDoor.Wr
open Go Go.RowKit Kt

def form (n : Nat) : List UInt8 := if n < 128 then [UInt8.ofNat n] else UInt8.ofNat (n % 128 + 128) :: form (n / 128)
termination_by n
decreasing_by omega
theorem form_lt {n : Nat} (h : n < 128) : form n = [UInt8.ofNat n] := by rw [form, if_pos h]
theorem form_ge {n : Nat} (h : ¬ n < 128) : form n = UInt8.ofNat (n % 128 + 128) :: form (n / 128) := by rw [form, if_neg h]
def val : List UInt8 → Nat
  | [] => 0
  | b :: r => b.toNat % 128 + 128 * val r
/-- how many bytes of 128 or more stand first -/
def lead : List UInt8 → Nat
  | [] => 0
  | b :: r => if 128 ≤ b.toNat then lead r + 1 else 0
theorem lead_le (l : List UInt8) : lead l ≤ l.length := by
  induction l with
  | nil => simp [lead]
  | cons b r ih => simp only [lead, List.length_cons]; split <;> omega
theorem lead_at (l : List UInt8) : ∀ i, i < lead l → 128 ≤ (l.getD i 0).toNat := by
  induction l with
  | nil => intro i h; simp [lead] at h
  | cons b r ih =>
    intro i h
    simp only [lead] at h
    split at h
    · cases i with
      | zero => simpa
      | succ i => simpa using ih i (by omega)
    · omega
theorem lead_stop (l : List UInt8) (h : lead l < l.length) : (l.getD (lead l) 0).toNat < 128 := by
  induction l with
  | nil => simp at h
  | cons b r ih =>
    simp only [lead] at h ⊢
    split
    · rename_i hb
      rw [if_pos hb, List.length_cons] at h
      simpa using ih (by omega)
    · simp; omega
theorem lead_of (l : List UInt8) : ∀ k, k < l.length → (∀ i, i < k → 128 ≤ (l.getD i 0).toNat) → (l.getD k 0).toNat < 128 → lead l = k := by
  induction l with
  | nil => intro k h; simp at h
  | cons b r ih =>
    intro k h h1 h2
    cases k with
    | zero => simp at h2; simp [lead]; omega
    | succ k =>
      have hb := h1 0 (by omega)
      simp at hb
      rw [lead, if_pos hb, ih k (by simpa using h) (fun i hi => by simpa using h1 (i + 1) (by omega)) (by simpa using h2)]
theorem lead_all (l : List UInt8) (h : ∀ i, i < l.length → 128 ≤ (l.getD i 0).toNat) : lead l = l.length := by
  rcases Nat.lt_or_ge (lead l) l.length with h1 | h1
  · have := lead_stop l h1
    have := h _ h1
    omega
  · have := lead_le l
    omega
theorem getD_app (l r : List UInt8) (i : Nat) (h : i < l.length) : (l ++ r).getD i 0 = l.getD i 0 := by
  simp [List.getD_eq_getElem?_getD, List.getElem?_append_left h]
theorem lead_append (l r : List UInt8) (h : lead l < l.length) : lead (l ++ r) = lead l := by
  refine lead_of _ _ (by rw [List.length_append]; omega) (fun i hi => ?_) ?_
  · have := lead_at l i hi
    rwa [getD_app _ _ _ (by omega)]
  · rw [getD_app _ _ _ h]
    exact lead_stop l h

/-- the number, how many bytes, why not -/
def numOf (bs : List UInt8) : Nat × Nat × Nat :=
  if 10 ≤ lead bs then (0, 0, 3)
  else if lead bs = bs.length then (0, 0, 2)
  else if (0 < lead bs ∧ (bs.getD (lead bs) 0).toNat = 0) ∨ (lead bs = 9 ∧ 1 < (bs.getD (lead bs) 0).toNat) then (0, 0, 3)
  else (val (bs.take (lead bs + 1)), lead bs + 1, 0)

theorem toNat_of {n : Nat} (h : n < 256) : (UInt8.ofNat n).toNat = n := by rw [UInt8.toNat_ofNat']; omega
theorem val_form (n : Nat) : val (form n) = n := by
  induction n using Nat.strongRecOn with
  | _ n ih =>
    by_cases h : n < 128
    · rw [form_lt h, val, val, toNat_of (by omega)]; omega
    · rw [form_ge h, val, ih _ (by omega), toNat_of (by omega)]; omega
theorem form_ne (n : Nat) : form n ≠ [] := by
  by_cases h : n < 128
  · rw [form_lt h]; simp
  · rw [form_ge h]; simp
theorem form_pos (n : Nat) : 0 < (form n).length := List.length_pos_iff.2 (form_ne n)
theorem form_lead (n : Nat) : lead (form n) + 1 = (form n).length := by
  induction n using Nat.strongRecOn with
  | _ n ih =>
    by_cases h : n < 128
    · rw [form_lt h, lead, toNat_of (by omega), if_neg (by omega)]; rfl
    · rw [form_ge h, lead, toNat_of (by omega), if_pos (by omega), ih _ (by omega)]; rfl
/-- its last byte isn't 0, if it has more than one -/
theorem form_last (n : Nat) (h : 128 ≤ n) : ((form n).getD (lead (form n)) 0).toNat ≠ 0 := by
  induction n using Nat.strongRecOn with
  | _ n ih =>
    rw [form_ge (by omega), lead, toNat_of (by omega), if_pos (by omega)]
    simp only [List.getD_cons_succ]
    by_cases h2 : n / 128 < 128
    · rw [form_lt h2, lead, toNat_of (by omega), if_neg (by omega)]
      simp only [List.getD_cons_zero]
      rw [toNat_of (by omega)]
      omega
    · exact ih _ (by omega) (by omega)
theorem form_short (n : Nat) : ∀ k, n < 128 ^ k → 0 < k → (form n).length ≤ k := by
  induction n using Nat.strongRecOn with
  | _ n ih =>
    intro k hn hk
    by_cases h : n < 128
    · rw [form_lt h]; simp; omega
    · rw [form_ge h, List.length_cons]
      cases k with
      | zero => omega
      | succ k =>
        have hk0 : 0 < k := by
          rcases Nat.eq_zero_or_pos k with rfl | hk0
          · simp at hn; omega
          · exact hk0
        have := ih (n / 128) (by omega) k (by rw [Nat.pow_succ] at hn; omega) hk0
        omega
theorem val_append (l r : List UInt8) : val (l ++ r) = val l + 128 ^ l.length * val r := by
  induction l with
  | nil => simp [val]
  | cons b l ih =>
    rw [List.cons_append, val, val, ih, List.length_cons, Nat.pow_succ, Nat.mul_add]
    rw [Nat.mul_comm (128 ^ l.length) 128, Nat.mul_assoc, Nat.add_assoc]
theorem val_lt (l : List UInt8) : val l < 128 ^ l.length := by
  induction l with
  | nil => simp [val]
  | cons b l ih =>
    rw [val, List.length_cons, Nat.pow_succ]
    have := Nat.mod_lt b.toNat (show 0 < 128 by omega)
    omega
/-- digits of which all but the last one are 128 or more, and the last one isn't 0, or is the only one, are a form -/
theorem form_val : ∀ l : List UInt8, lead l + 1 = l.length → (0 < lead l → (l.getD (lead l) 0).toNat ≠ 0) → form (val l) = l
  | [], h, _ => by simp [lead] at h
  | [b], h, _ => by
    have hb : b.toNat < 128 := by
      by_cases hb : 128 ≤ b.toNat
      · simp [lead, hb] at h
      · omega
    rw [val, val, form_lt (by omega), Nat.mod_eq_of_lt hb]
    simp
  | b :: c :: r, h, h0 => by
    have hb : 128 ≤ b.toNat := by
      by_cases hb : 128 ≤ b.toNat
      · exact hb
      · simp [lead, hb] at h
    have e : lead (b :: c :: r) = lead (c :: r) + 1 := by rw [lead, if_pos hb]
    rw [e] at h h0
    have h1 : lead (c :: r) + 1 = (c :: r).length := by rw [List.length_cons] at h; omega
    have hn := h0 (by omega)
    rw [List.getD_cons_succ] at hn
    have ih := form_val (c :: r) h1 (fun _ => hn)
    have hpos : 0 < val (c :: r) := by
      rcases Nat.eq_zero_or_pos (val (c :: r)) with hz | hz
      · exfalso
        rw [hz, form_lt (by omega)] at ih
        rw [← ih] at hn
        revert hn
        decide
      · exact hz
    have hb8 := toNat_lt b
    rw [val, form_ge (by omega)]
    rw [show (b.toNat % 128 + 128 * val (c :: r)) / 128 = val (c :: r) from by omega, show (b.toNat % 128 + 128 * val (c :: r)) % 128 + 128 = b.toNat from by omega, ih]
    simp
theorem take_getD (l : List UInt8) (k i : Nat) (h : i < k) : (l.take k).getD i 0 = l.getD i 0 := by
  simp [List.getD_eq_getElem?_getD, h]
theorem lead_take (bs : List UInt8) (h : lead bs < bs.length) : lead (bs.take (lead bs + 1)) = lead bs :=
  lead_of _ _ (by rw [List.length_take]; omega) (fun i hi => by rw [take_getD _ _ _ (by omega)]; exact lead_at bs i hi) (by rw [take_getD _ _ _ (by omega)]; exact lead_stop bs h)

theorem numOf_fail (bs : List UInt8) (n k e : Nat) (h : numOf bs = (n, k, e)) (he : e ≠ 0) : n = 0 ∧ k = 0 ∧ (e = 2 ∨ e = 3) := by
  unfold numOf at h
  split at h
  · cases h; exact ⟨rfl, rfl, .inr rfl⟩
  · split at h
    · cases h; exact ⟨rfl, rfl, .inl rfl⟩
    · split at h
      · cases h; exact ⟨rfl, rfl, .inr rfl⟩
      · cases h; exact absurd rfl he
/-- what is read as a number is a form -/
theorem numOf_ok (bs : List UInt8) (n k : Nat) (h : numOf bs = (n, k, 0)) : n < 18446744073709551616 ∧ 1 ≤ k ∧ k ≤ 10 ∧ k ≤ bs.length ∧ form n = bs.take k := by
  unfold numOf at h
  split at h
  · cases h
  · rename_i h1
    split at h
    · cases h
    · rename_i h2
      split at h
      · cases h
      · rename_i h3
        have hle := lead_le bs
        have hlt : lead bs < bs.length := by omega
        have hk : k = lead bs + 1 := by cases h; rfl
        have hn : n = val (bs.take k) := by cases h; rfl
        have hl : (bs.take k).length = k := by rw [List.length_take]; omega
        have hlead : lead (bs.take k) + 1 = (bs.take k).length := by rw [hl, hk, lead_take bs hlt]
        have hf : form n = bs.take k := by
          rw [hn]
          refine form_val _ hlead fun hp => ?_
          rw [hk, lead_take bs hlt] at hp ⊢
          rw [take_getD _ _ _ (by omega)]
          omega
        refine ⟨?_, by omega, by omega, by omega, hf⟩
        rw [hn, hk, List.take_succ_eq_append_getElem hlt, val_append]
        have hv := val_lt (bs.take (lead bs))
        have hlen : (bs.take (lead bs)).length = lead bs := by rw [List.length_take]; omega
        rw [hlen] at hv ⊢
        have hx : bs[lead bs] = bs.getD (lead bs) 0 := by simp [List.getElem?_eq_getElem hlt]
        have hs := lead_stop bs hlt
        rw [hx]
        simp only [val]
        generalize (bs.getD (lead bs) 0).toNat = x at *
        generalize val (bs.take (lead bs)) = v at *
        rcases Nat.lt_or_ge (lead bs) 9 with h9 | h9
        · have hp : 128 ^ (lead bs) ≤ 128 ^ 8 := Nat.pow_le_pow_right (by omega) (by omega)
          have : 128 ^ (lead bs) * (x % 128 + 128 * 0) ≤ 128 ^ 8 * 127 := Nat.mul_le_mul hp (by omega)
          omega
        · have e9 : lead bs = 9 := by omega
          rw [e9] at hv ⊢
          have : x ≤ 1 := by omega
          have : 128 ^ 9 * (x % 128 + 128 * 0) ≤ 128 ^ 9 * 1 := Nat.mul_le_mul_left _ (by omega)
          omega
/-- what stands behind changes nothing -/
theorem numOf_more (bs more : List UInt8) (h : (numOf bs).2.2 ≠ 2) : numOf (bs ++ more) = numOf bs := by
  have hle := lead_le bs
  unfold numOf at h ⊢
  by_cases h2 : lead bs = bs.length
  · have h10 : 10 ≤ lead bs := by
      by_cases h1 : 10 ≤ lead bs
      · exact h1
      · rw [if_neg h1, if_pos h2] at h; exact absurd rfl h
    have : lead bs ≤ lead (bs ++ more) := by
      rcases Nat.lt_or_ge (lead (bs ++ more)) (lead bs) with hlt | hge
      · have := lead_stop (bs ++ more) (by rw [List.length_append]; omega)
        rw [getD_app _ _ _ (by omega)] at this
        have := lead_at bs _ hlt
        omega
      · exact hge
    rw [if_pos (by omega), if_pos h10]
  · have hl := lead_append bs more (by omega)
    rw [hl, List.length_append, getD_app _ _ _ (by omega), List.take_append_of_le_length (by omega)]
    rw [if_neg (show ¬ lead bs = bs.length + more.length by omega), if_neg h2]
/-- what is put is read -/
theorem numOf_form (n : Nat) (r : List UInt8) (h : n < 18446744073709551616) : numOf (form n ++ r) = (n, (form n).length, 0) := by
  have hl := form_lead n
  have hs := form_short n 10 (by omega) (by omega)
  have h1 := lead_append (form n) r (by omega)
  unfold numOf
  rw [h1, if_neg (by omega), if_neg (by rw [List.length_append]; omega), getD_app _ _ _ (by omega), hl, List.take_left', val_form]
  · rw [if_neg]
    rintro (⟨h2, h3⟩ | ⟨h2, h3⟩)
    · refine form_last n ?_ h3
      rcases Nat.lt_or_ge n 128 with hn | hn
      · rw [form_lt hn] at hl; simp at hl; rw [form_lt hn] at h2; omega
      · exact hn
    · have hv := val_form n
      have hsplit : form n = (form n).take 9 ++ [(form n).getD 9 0] := by
        have e : (form n).take (9 + 1) = form n := List.take_of_length_le (by omega)
        rw [List.take_succ_eq_append_getElem (by omega)] at e
        have e2 : (form n)[9]'(by omega) = (form n).getD 9 0 := by simp [List.getElem?_eq_getElem (show 9 < (form n).length by omega)]
        rw [e2] at e
        exact e.symm
      rw [h2] at h3
      have hst := lead_stop (form n) (by omega)
      rw [h2] at hst
      rw [hsplit, val_append] at hv
      have : ((form n).take 9).length = 9 := by rw [List.length_take]; omega
      rw [this] at hv
      simp only [val] at hv
      generalize ((form n).getD 9 0).toNat = x at *
      generalize val ((form n).take 9) = v at *
      have : 128 ^ 9 * 2 ≤ 128 ^ 9 * (x % 128 + 128 * 0) := Nat.mul_le_mul_left _ (by omega)
      omega
  · rfl

/-- the text, where it ends, why not -/
def textOf (bs : List UInt8) (most : Int) : List UInt8 × Nat × Nat :=
  if (numOf bs).2.2 ≠ 0 then ([], 0, (numOf bs).2.2)
  else if (max most 0).toNat < (numOf bs).1 then ([], 0, 4)
  else if bs.length - (numOf bs).2.1 < (numOf bs).1 then ([], 0, 2)
  else ((bs.drop (numOf bs).2.1).take (numOf bs).1, (numOf bs).2.1 + (numOf bs).1, 0)
end Go.Proofs.YtcmjdepjckhpdabDoor.Wr
