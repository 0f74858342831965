/-
  The reference's word.
-/
import Derived.Test.YtnehgogajghefaaDoorVK
namespace Go.Proofs.YtnehgogajghefaaDoor.Un
open Go Go.RowKit Kt Lw Li Df Hu

theorem words_ne (x y : List UInt8) : (x != y) = decide (x ≠ y) := by
  rw [Bool.eq_iff_iff, bne_iff_ne, decide_eq_true_iff]
theorem cut_mid (s : List UInt8) (k n : Nat) : (ByteArray.mk s.toArray).extract k (k + n) = ⟨((s.drop k).take n).toArray⟩ := by
  apply ByteArray.ext
  rw [ByteArray.data_extract]
  apply Array.ext'
  simp
set_option maxRecDepth 100000 in
set_option maxHeartbeats 1000000 in
theorem word_any (s v : List UInt8) (t : Nat) (w : World) (hl : s.length ≤ 1000000) (ht : t ≤ s.length) (hv : v.length ≤ 1000) (U : Int) (hU : U = if v <+: s.drop t then ((t + v.length : Nat) : Int) else -1) :
    Calls Tryd.prog 25 #[.string ⟨s.toArray⟩, .int .i64 t, .string ⟨v.toArray⟩] w fun y w' => y = .returned (.int .i64 U) ∧ w' = w := by
  have hsz := Hu.size_of s
  have hvz := Hu.size_of v
  have hc := cut_mid s t v.length
  obtain ⟨q, hq⟩ : ∃ q, q = (s.drop t).take v.length := ⟨_, rfl⟩
  rw [← hq] at hc
  have hp : v <+: s.drop t ↔ v = q := by rw [hq, List.prefix_iff_eq_take]
  have hlen : t + v.length ≤ s.length ∨ s.length < t + v.length := by omega
  have hshort : s.length < t + v.length → v ≠ q := fun h e => by
    have h1 := congrArg List.length e
    rw [hq, List.length_take, List.length_drop] at h1
    omega
  have HU := hide (show U = if v = q then ((t + v.length : Nat) : Int) else -1 by rw [hU]; simp only [hp])
  have Hsh := hide hshort
  obtain ⟨n, hn⟩ : ∃ n, n = s.length := ⟨_, rfl⟩
  obtain ⟨k, hk⟩ : ∃ k, k = v.length := ⟨_, rfl⟩
  rw [← hn] at hl ht hsz hlen Hsh
  rw [← hk] at hv hvz hc hlen Hsh HU
  clear hU hp hshort hq hn hk
  have e0 : decide ((t : Int) < 0) = false := decide_eq_false (by omega)
  rcases hlen with hlen | hlen
  · have e1 : decide ((n : Int) < (t : Int) + (k : Int)) = false := decide_eq_false (by omega)
    have e2 : ((t : Int) + (k : Int)).toNat = t + k := by omega
    have e3 : (t : Int) ≤ (t : Int) + (k : Int) := by omega
    have e4 : (t : Int) + (k : Int) ≤ (n : Int) := by omega
    by_cases hvq : v = q
    · have HU2 := hide (HU.out.trans (if_pos hvq))
      subst hvq
      have f1 : (v != v) = false := by rw [words_ne]; simp
      clear HU Hsh
      go_enter Tryd.func25, Tryd.ntmps25
      go_wp2
      go_ret
      exact ⟨by rw [HU2.out]; rfl, rfl⟩
    · have HU2 := hide (HU.out.trans (if_neg hvq))
      have f1 : (q != v) = true := by rw [words_ne, decide_eq_true_iff]; exact fun h => hvq h.symm
      have f2 : (q == v) = false := by rw [beq_eq_false_iff_ne]; exact fun h => hvq h.symm
      have f3 : ¬ q = v := fun h => hvq h.symm
      clear HU Hsh
      go_enter Tryd.func25, Tryd.ntmps25
      go_wp2
      go_ret
      exact ⟨by rw [HU2.out]; rfl, rfl⟩
  · have e1 : decide ((n : Int) < (t : Int) + (k : Int)) = true := decide_eq_true (by omega)
    have HU2 := hide (HU.out.trans (if_neg (Hsh.out hlen)))
    clear HU Hsh hc
    go_enter Tryd.func25, Tryd.ntmps25
    go_wp2
    go_ret
    exact ⟨by rw [HU2.out]; rfl, rfl⟩
end Go.Proofs.YtnehgogajghefaaDoor.Un
namespace Go.Proofs.YtnehgogajghefaaDoor.Un
open Go Go.RowKit Kt Lw Li Df Hu

theorem dval_lt : ∀ (l : List UInt8) (acc : Nat), (∀ c ∈ l, isDig c) → dval acc l < (acc + 1) * 10 ^ l.length
  | [], acc, _ => by rw [dval_nil]; simp
  | c :: r, acc, h => by
    have h1 := h c (by simp)
    have h2 := dval_lt r (acc * 10 + (c.toNat - 48)) (fun c hc => h c (by simp [hc]))
    rw [dval_cons, List.length_cons, Nat.pow_succ]
    refine Nat.lt_of_lt_of_le h2 ?_
    have h3 : acc * 10 + (c.toNat - 48) + 1 ≤ (acc + 1) * 10 := by have := h1.2; omega
    calc _ ≤ (acc + 1) * 10 * 10 ^ r.length := Nat.mul_le_mul_right _ h3
      _ = (acc + 1) * (10 ^ r.length * 10) := by rw [Nat.mul_assoc, Nat.mul_comm 10]
theorem ndig_stop : ∀ (k : Nat) (r : List UInt8), ndig k r = k ∨ ndig k r = r.length ∨ ¬ isDig (r.getD (ndig k r) 0)
  | 0, r => .inl rfl
  | k + 1, [] => .inr (.inl rfl)
  | k + 1, c :: r => by
    rw [ndig]
    split
    · rename_i h
      rcases ndig_stop k r with h1 | h1 | h1
      · exact .inl (by omega)
      · exact .inr (.inl (by rw [h1]; rfl))
      · exact .inr (.inr (by simpa using h1))
    · rename_i h
      exact .inr (.inr (by simpa using fun h' => h (digB_iff.2 h')))
theorem getD_drop (s : List UInt8) (t j : Nat) : (s.drop t).getD j 0 = s.getD (t + j) 0 := by
  rw [List.getD_eq_getElem?_getD, List.getD_eq_getElem?_getD, List.getElem?_drop]
/-- the reference's number: what rnum says -/
theorem refNumber_any (s : List UInt8) (t : Nat) (w : World) (hl : s.length ≤ 1000000) (ht : t ≤ s.length) :
    Calls Tryd.prog 26 #[.string ⟨s.toArray⟩, .int .i64 t] w fun y w' => w' = w ∧ (match rnum (s.drop t) with
      | none => y = .returned (.tuple #[.int .i64 (-1), .int .i64 0])
      | some (u, r) => ∃ e : Nat, y = .returned (.tuple #[.int .i64 (u : Int), .int .i64 (e : Int)]) ∧ e ≤ s.length ∧ s.drop e = r) := by
  obtain ⟨r, hr⟩ : ∃ r, r = s.drop t := ⟨_, rfl⟩
  obtain ⟨d, hd⟩ : ∃ d, d = ndig 11 r := ⟨_, rfl⟩
  have hle := ndig_le 11 r
  have hrl : r.length = s.length - t := by rw [hr, List.length_drop]
  have hdg := ndig_dig 11 r
  have hsp := ndig_stop 11 r
  rw [← hd] at hle hdg hsp
  have hget : ∀ j, r.getD j 0 = s.getD (t + j) 0 := fun j => by rw [hr, getD_drop]
  have htk : ∀ j, j < d → r.take (j + 1) = r.take j ++ [s.getD (t + j) 0] := fun j hj => by
    rw [List.take_succ_eq_append_getElem (by omega), ← hget, List.getD_eq_getElem?_getD, List.getElem?_eq_getElem (by omega)]; rfl
  have hpre : ∀ j, j ≤ d → ∀ c ∈ r.take j, isDig c := fun j hj c hc => hdg c (by
    rw [show r.take j = (r.take d).take j by rw [List.take_take, Nat.min_eq_left hj]] at hc
    exact List.mem_of_mem_take hc)
  refine (number_walk s t d (fun j => dval 0 (r.take j)) w hl hle.1 (by omega) (by simp [dval_nil]) (fun j hj => hpre (j + 1) (by omega) _ (by rw [htk j hj]; simp)) (fun j hj => by
    rw [htk j hj, dval_append, dval_cons, dval_nil]) (fun j hj => by
      have h1 := dval_lt (r.take j) 0 (hpre j hj)
      have h2 : (r.take j).length ≤ 11 := by rw [List.length_take]; omega
      have h3 : 10 ^ (r.take j).length ≤ 10 ^ 11 := Nat.pow_le_pow_right (by omega) h2
      omega) (by
      rw [← hget]
      rcases hsp with h | h | h
      · exact .inl h
      · exact .inr (.inl (by omega))
      · exact .inr (.inr h)) _ _ rfl rfl).mono ?_
  rintro y w' ⟨rfl, rfl⟩
  refine ⟨rfl, ?_⟩
  have hbad : (d = 0 ∨ (1 < d ∧ (s.getD t 0).toNat = 48) ∨ 2147483647 < dval 0 (r.take d)) ↔ (d = 0 ∨ (1 < d ∧ r.head? = some 48) ∨ 2147483647 < dval 0 (r.take d)) := by
    have h1 : 1 < d → ((s.getD t 0).toNat = 48 ↔ r.head? = some 48) := fun h => by
      rw [show s.getD t 0 = r.getD 0 0 by rw [hget]; rfl]
      cases r with
      | nil => simp at hle; omega
      | cons a r =>
        simp only [List.getD_cons_zero, List.head?_cons, Option.some.injEq]
        exact ⟨fun h => UInt8.toNat_inj.1 (by rw [h]; rfl), fun h => by rw [h]; rfl⟩
    constructor
    · rintro (h | ⟨h, h'⟩ | h)
      · exact .inl h
      · exact .inr (.inl ⟨h, (h1 h).1 h'⟩)
      · exact .inr (.inr h)
    · rintro (h | ⟨h, h'⟩ | h)
      · exact .inl h
      · exact .inr (.inl ⟨h, (h1 h).2 h'⟩)
      · exact .inr (.inr h)
  rw [← hr]
  unfold rnum
  rw [← hd]
  simp only [hbad]
  by_cases hB : d = 0 ∨ (1 < d ∧ r.head? = some 48) ∨ 2147483647 < dval 0 (r.take d)
  · simp only [if_pos hB]
  · simp only [if_neg hB]
    exact ⟨t + d, rfl, by omega, by rw [hr, List.drop_drop]⟩
end Go.Proofs.YtnehgogajghefaaDoor.Un
