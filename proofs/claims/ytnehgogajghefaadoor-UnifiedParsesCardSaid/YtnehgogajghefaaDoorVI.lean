/-
  The reference's head, on lists alone.
-/
import Derived.Test.YtnehgogajghefaaDoorQ10
namespace Go.Proofs.YtnehgogajghefaaDoor.Un
open Go Df Li Hu

theorem dec_canon : ∀ (n : Nat) (d : List UInt8), d.length = n → d ≠ [] → (∀ c ∈ d, isDig c) → (1 < d.length → d.head? ≠ some 48) → Lib.decDigits (dval 0 d) = d := by
  intro n
  induction n with
  | zero => intro d h hne; exact absurd (List.length_eq_zero_iff.1 h) hne
  | succ n ih =>
    intro d hl hne hd hz
    obtain ⟨e, c, rfl⟩ : ∃ e c, d = e ++ [c] := ⟨d.dropLast, d.getLast hne, (List.dropLast_concat_getLast hne).symm⟩
    have hc : isDig c := hd c (by simp)
    obtain ⟨hc1, hc2⟩ := hc
    have hcc : UInt8.ofNat (48 + (c.toNat - 48)) = c := by rw [show 48 + (c.toNat - 48) = c.toNat by omega]; exact UInt8.ofNat_toNat
    rw [dval_append, dval_cons, dval_nil]
    by_cases he : e = []
    · subst he
      rw [dval_nil, Lib.decDigits, dif_pos (by omega), Nat.zero_mul, Nat.zero_add, hcc]
      rfl
    · have hel : e.length = n := by simpa using hl
      have hed : ∀ c ∈ e, isDig c := fun x hx => hd x (by simp [hx])
      obtain ⟨a, r, rfl⟩ : ∃ a r, e = a :: r := by cases e with
        | nil => exact absurd rfl he
        | cons a r => exact ⟨a, r, rfl⟩
      have hz' : a ≠ 48 := fun h => hz (by simp) (by simp [h])
      have ha : isDig a := hed a (by simp)
      have hv := dval_ge r (0 * 10 + (a.toNat - 48))
      have ha1 : 49 ≤ a.toNat := by
        have h1 := ha.1
        have h2 : a.toNat ≠ 48 := fun h => hz' (UInt8.toNat_inj.1 (by rw [h]; rfl))
        omega
      have hq := ih (a :: r) hel he hed (fun _ h => hz' (by simpa using h))
      rw [dval_cons] at hq ⊢
      obtain ⟨q, hq'⟩ : ∃ q, q = dval (0 * 10 + (a.toNat - 48)) r := ⟨_, rfl⟩
      rw [← hq'] at hq hv ⊢
      rw [Lib.decDigits, dif_neg (by omega), show (q * 10 + (c.toNat - 48)) / 10 = q by omega, show (q * 10 + (c.toNat - 48)) % 10 = c.toNat - 48 by omega, hq, hcc]
theorem dec_head : ∀ u : Nat, 1 < (Lib.decDigits u).length → (Lib.decDigits u).head? ≠ some 48 := by
  intro u
  induction u using Nat.strongRecOn with
  | ind u ih =>
    intro hl
    rw [Lib.decDigits] at hl ⊢
    split
    · rename_i h; rw [dif_pos h] at hl; simp at hl
    · rename_i h
      have hne := dec_ne (u / 10)
      rw [List.head?_append, Option.or_of_isSome (by rw [List.isSome_head?]; exact hne)]
      by_cases h1 : 1 < (Lib.decDigits (u / 10)).length
      · exact ih (u / 10) (by omega) h1
      · rw [Lib.decDigits]
        split
        · rename_i h2
          intro h3
          have h4 : UInt8.ofNat (48 + u / 10) = 48 := by simpa using h3
          have h5 := (dig_of (u / 10) h2).2
          rw [h4] at h5
          simp at h5
          omega
        · rename_i h2
          exfalso
          have h3 : (Lib.decDigits (u / 10)).length = (Lib.decDigits (u / 10 / 10)).length + 1 := by
            rw [Lib.decDigits, dif_neg h2, List.length_append, List.length_singleton]
          have := List.length_pos_iff.2 (dec_ne (u / 10 / 10))
          omega
theorem dec_short : ∀ (k u : Nat), u < 10 ^ (k + 1) → (Lib.decDigits u).length ≤ k + 1
  | k, u, h => by
    rw [Lib.decDigits]
    split
    · simp
    · rename_i h2
      cases k with
      | zero => omega
      | succ k =>
        have := dec_short k (u / 10) (by rw [Nat.pow_succ] at h; omega)
        simp; omega
def digB (c : UInt8) : Bool := decide (48 ≤ c.toNat) && decide (c.toNat ≤ 57)
theorem digB_iff {c : UInt8} : digB c = true ↔ isDig c := by simp [digB, isDig]
/-- how many digits stand in front, at most k -/
def ndig : Nat → List UInt8 → Nat
  | 0, _ => 0
  | _ + 1, [] => 0
  | k + 1, c :: r => if digB c then ndig k r + 1 else 0
theorem ndig_le : ∀ (k : Nat) (r : List UInt8), ndig k r ≤ k ∧ ndig k r ≤ r.length
  | 0, r => by simp [ndig]
  | k + 1, [] => by simp [ndig]
  | k + 1, c :: r => by
    rw [ndig]
    have := ndig_le k r
    split <;> simp <;> omega
theorem ndig_dig : ∀ (k : Nat) (r : List UInt8), ∀ c ∈ r.take (ndig k r), isDig c
  | 0, r => by simp [ndig]
  | k + 1, [] => by simp [ndig]
  | k + 1, c :: r => by
    rw [ndig]
    split
    · rename_i h
      intro x hx
      rw [List.take_succ_cons] at hx
      rcases List.mem_cons.1 hx with rfl | hx
      · exact digB_iff.1 h
      · exact ndig_dig k r x hx
    · simp
theorem ndig_all : ∀ (d : List UInt8) (k : Nat) (r : List UInt8), d.length ≤ k → (∀ c ∈ d, isDig c) → (∀ c, r.head? = some c → ¬ isDig c) → ndig k (d ++ r) = d.length
  | [], k, r, _, _, hr => by
    cases k with
    | zero => rfl
    | succ k => cases r with
      | nil => rfl
      | cons c r =>
        have := hr c rfl
        rw [List.nil_append, ndig, if_neg (fun h => this (digB_iff.1 h))]; rfl
  | c :: d, k, r, hk, hd, hr => by
    cases k with
    | zero => simp at hk
    | succ k =>
      rw [List.cons_append, ndig, if_pos (digB_iff.2 (hd c (by simp))), ndig_all d k r (by simpa using hk) (fun x hx => hd x (by simp [hx])) hr]; rfl
/-- the number in front, and what stands behind it -/
def rnum (r : List UInt8) : Option (Nat × List UInt8) :=
  if ndig 11 r = 0 ∨ (1 < ndig 11 r ∧ r.head? = some 48) ∨ 2147483647 < dval 0 (r.take (ndig 11 r)) then none else some (dval 0 (r.take (ndig 11 r)), r.drop (ndig 11 r))
theorem rnum_some {r r' : List UInt8} {u : Nat} (h : rnum r = some (u, r')) : r = Lib.decDigits u ++ r' ∧ u < 2147483648 := by
  unfold rnum at h
  split at h
  · cases h
  · rename_i hn
    simp only [not_or, not_and] at hn
    obtain ⟨h1, h2, h3⟩ := hn
    injection h with h
    injection h with hu hr
    have hl := (ndig_le 11 r).2
    have hlt : (r.take (ndig 11 r)).length = ndig 11 r := by rw [List.length_take]; omega
    have hc := dec_canon _ (r.take (ndig 11 r)) rfl (fun e => h1 (by rw [← hlt, e]; rfl)) (ndig_dig 11 r) (fun hl => by
      rw [hlt] at hl
      rw [List.head?_take, if_neg (by omega)]
      exact h2 hl)
    rw [hu] at hc h3
    refine ⟨?_, by omega⟩
    rw [hc, ← hr, List.take_append_drop]
theorem rnum_dec (u : Nat) (h : u < 2147483648) (r : List UInt8) (hr : ∀ c, r.head? = some c → ¬ isDig c) : rnum (Lib.decDigits u ++ r) = some (u, r) := by
  have hl := dec_short 9 u (by omega)
  have hn := ndig_all (Lib.decDigits u) 11 r (by omega) (dec_dig u) hr
  have hp := List.length_pos_iff.2 (dec_ne u)
  unfold rnum
  rw [hn, List.take_left, List.drop_left, dec_val, if_neg]
  rintro (h1 | ⟨h1, h2⟩ | h1)
  · omega
  · rw [List.head?_append, Option.or_of_isSome (by rw [List.isSome_head?]; exact dec_ne u)] at h2
    exact dec_head u h1 h2
  · omega
/-- behind a word -/
def rword (w r : List UInt8) : Option (List UInt8) := if w <+: r then some (r.drop w.length) else none
theorem rword_some {w r r' : List UInt8} (h : rword w r = some r') : r = w ++ r' := by
  unfold rword at h
  split at h
  · rename_i hp
    injection h with h
    obtain ⟨t, rfl⟩ := hp
    rw [List.drop_left] at h
    rw [h]
  · cases h
theorem rword_yes (w r : List UInt8) : rword w (w ++ r) = some r := by
  unfold rword
  rw [if_pos (List.prefix_append w r), List.drop_left]
def rstep (w r : List UInt8) : Option (Nat × List UInt8) := match rword w r with
  | none => none
  | some r => rnum r
def lowP (p many : Nat) : Int := if 0 < many then (p : Int) - 1 else p
/-- the reference's head -/
def rhead (x : List UInt8) : Option Hk := match rstep opensB x with
  | none => none
  | some (n0, r0) => match rstep [44] r0 with
    | none => none
    | some (n1, r1) => match rstep plusB r1 with
      | none => none
      | some (n2, r2) => match rstep [44] r2 with
        | none => none
        | some (n3, r3) => if r3 = closesB ∧ ¬ ((n0 = 0 ∧ 0 < n1) ∨ (n2 = 0 ∧ 0 < n3)) then some ⟨lowP n0 n1, n1, lowP n2 n3, n3, []⟩ else none
theorem rstep_some {w r r' : List UInt8} {u : Nat} (h : rstep w r = some (u, r')) : r = w ++ (Lib.decDigits u ++ r') ∧ u < 2147483648 := by
  unfold rstep at h
  split at h
  · cases h
  · rename_i hw
    obtain ⟨h1, h2⟩ := rnum_some h
    exact ⟨by rw [rword_some hw, h1], h2⟩
theorem rstep_yes (w : List UInt8) (u : Nat) (h : u < 2147483648) (r : List UInt8) (hr : ∀ c, r.head? = some c → ¬ isDig c) : rstep w (w ++ (Lib.decDigits u ++ r)) = some (u, r) := by
  unfold rstep
  rw [rword_yes]
  exact rnum_dec u h r hr
theorem low_sml {p many : Nat} (hp : p < 2147483648) (hm : many < 2147483648) (h : ¬ (p = 0 ∧ 0 < many)) : Sml (lowP p many) many ∧ plc (lowP p many) many = p := by
  unfold Sml plc lowP
  split <;> omega
theorem sml_low {p m : Int} (h : Sml p m) : ∃ p' m' : Nat, plc p m = p' ∧ m = m' ∧ p' < 2147483648 ∧ m' < 2147483648 ∧ ¬ (p' = 0 ∧ 0 < m') ∧ lowP p' m' = p := by
  have h0 := h.plc
  unfold Sml at h
  refine ⟨(plc p m).toNat, m.toNat, by omega, by omega, by omega, by omega, ?_, ?_⟩
  · unfold plc at *; omega
  · unfold lowP plc at *; split <;> omega
theorem side_dec {p m : Int} {p' m' : Nat} (h1 : plc p m = p') (h2 : m = m') : sideT p m = Lib.decDigits p' ++ ([44] ++ Lib.decDigits m') := by
  unfold sideT
  rw [h1, h2, itoa_nat _ (by omega), itoa_nat _ (by omega)]
  rfl
theorem rhead_hd (x : List UInt8) : rhead x = hd x := by
  cases hh : hd x with
  | some h =>
    obtain ⟨e0, e1, e2, rfl⟩ := hd_some hh
    obtain ⟨a, an, b, bn, ls⟩ := h
    simp only at e0 e1 e2 hh ⊢
    subst e0
    obtain ⟨n0, n1, f1, f2, f3, f4, f5, f6⟩ := sml_low e1
    obtain ⟨n2, n3, g1, g2, g3, g4, g5, g6⟩ := sml_low e2
    have ht : headT a an b bn = opensB ++ (Lib.decDigits n0 ++ ([44] ++ (Lib.decDigits n1 ++ (plusB ++ (Lib.decDigits n2 ++ ([44] ++ (Lib.decDigits n3 ++ closesB))))))) := by
      rw [headT, side_dec f1 f2, side_dec g1 g2]
      simp only [List.append_assoc]
    have hn44 : ∀ (t : List UInt8) c, ([44] ++ t).head? = some c → ¬ isDig c := by
      intro t c h
      obtain rfl : 44 = c := by simpa using h
      unfold isDig; decide
    have hnp : ∀ (t : List UInt8) c, (plusB ++ t).head? = some c → ¬ isDig c := by
      intro t c h
      obtain rfl : 32 = c := by simpa [plusB] using h
      unfold isDig; decide
    have hnc : ∀ c, closesB.head? = some c → ¬ isDig c := by
      intro c h
      obtain rfl : 32 = c := by simpa [closesB] using h
      unfold isDig; decide
    unfold rhead
    rw [ht, rstep_yes _ n0 f3 _ (hn44 _)]
    simp only
    rw [rstep_yes _ n1 f4 _ (hnp _)]
    simp only
    rw [rstep_yes _ n2 g3 _ (hn44 _)]
    simp only
    rw [rstep_yes _ n3 g4 _ hnc]
    simp only
    rw [if_pos ⟨trivial, by omega⟩, f6, g6, f2, g2]
  | none =>
    cases hr : rhead x with
    | none => rfl
    | some h =>
      exfalso
      unfold rhead at hr
      split at hr
      · cases hr
      rename_i n0 r0 h0
      split at hr
      · cases hr
      rename_i n1 r1 h1
      split at hr
      · cases hr
      rename_i n2 r2 h2
      split at hr
      · cases hr
      rename_i n3 r3 h3
      split at hr
      · rename_i hc
        obtain ⟨a0, b0⟩ := rstep_some h0
        obtain ⟨a1, b1⟩ := rstep_some h1
        obtain ⟨a2, b2⟩ := rstep_some h2
        obtain ⟨a3, b3⟩ := rstep_some h3
        obtain ⟨s1, p1⟩ := low_sml b0 b1 (fun h => hc.2 (.inl h))
        obtain ⟨s2, p2⟩ := low_sml b2 b3 (fun h => hc.2 (.inr h))
        have hx : x = headT (lowP n0 n1) n1 (lowP n2 n3) n3 := by
          rw [headT, side_dec p1 rfl, side_dec p2 rfl, a0, a1, a2, a3, hc.1]
          simp only [List.append_assoc]
        rw [hx, hd_head s1 s2] at hh
        cases hh
      · cases hr
end Go.Proofs.YtnehgogajghefaaDoor.Un
