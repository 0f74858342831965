/-
  Edits played line by line: on lists alone.
-/
import Derived.Test.YtcilenppjpnaoaaEB
namespace Go.Proofs.Ytcilenppjpnaoaa.Df

theorem right_gt (n : Nat) : ∀ (L : List Ed) (last : Int), -1 ≤ last → right n last L = true → ∀ e ∈ L, last < e.pos
  | [], _, _, _, e, he => by cases he
  | a :: l, last, h1, hr, e, he => by
    obtain ⟨p, d, ep, ed, hpd, hlp, hne, hr'⟩ := right_head hr h1
    rcases List.mem_cons.1 he with rfl | he
    · rw [ep]; exact hlp
    · have := right_gt n l _ (by omega) hr' e he
      omega
/-- behind line i the first c edits are played, 'pre' is there, and the next line that stays is not ahead of 'nx' -/
structure Sp (a : Ls) (L : List Ed) (i c nx : Nat) (last : Int) (pre : Ls) : Prop where
  cle : c ≤ L.length
  nle : nx ≤ a.length
  low : -1 ≤ last
  nl : (nx : Int) ≤ last + 1
  ok : right a.length last (L.drop c) = true
  ahead : ∀ (j : Nat) (e : Ed), L[j]? = some e → j < c → e.pos < (i : Int)
  behind : ∀ (j : Nat) (e : Ed), L[j]? = some e → c ≤ j → (i : Int) ≤ e.pos
  all : pre ++ play a (max i nx) (L.drop c) = play a 0 L
theorem Sp.first {a : Ls} {L : List Ed} (h : right a.length (-1) L = true) : Sp a L 0 0 0 (-1) [] where
  cle := Nat.zero_le _
  nle := Nat.zero_le _
  low := Int.le_refl _
  nl := by omega
  ok := h
  ahead := fun _ _ _ h => absurd h (Nat.not_lt_zero _)
  behind := fun j e he _ => by
    have := right_gt _ L (-1) (Int.le_refl _) h e (List.mem_of_getElem? he)
    omega
  all := rfl
section
variable {a : Ls} {L : List Ed} {i c nx : Nat} {last : Int} {pre : Ls}
theorem drop_at {c : Nat} {e : Ed} (h : L[c]? = some e) : L.drop c = e :: L.drop (c + 1) := by
  have h1 := (List.getElem?_eq_some_iff.1 h).1
  rw [List.drop_eq_getElem_cons h1]
  rw [List.getElem?_eq_getElem h1] at h
  injection h with h
  rw [h]
theorem mem_drop {c j : Nat} {e : Ed} (h : L[j]? = some e) (hj : c ≤ j) : e ∈ L.drop c := by
  have : (L.drop c)[j - c]? = some e := by rw [List.getElem?_drop, show c + (j - c) = j from by omega]; exact h
  exact List.mem_of_getElem? this
theorem Sp.later (h : Sp a L i c nx last pre) {ec : Ed} (hc : L[c]? = some ec) {j : Nat} {e : Ed} (hj : L[j]? = some e) (hcj : c < j) : ec.pos + ec.del < e.pos ∧ 0 ≤ ec.del := by
  have hr := h.ok
  rw [drop_at hc] at hr
  obtain ⟨p, d, ep, ed, hpd, hlp, hne, hr'⟩ := right_head hr h.low
  have := right_gt _ _ _ (by omega) hr' e (mem_drop hj hcj)
  rw [ep, ed]
  omega
/-- no other edit stands at line i -/
theorem Sp.other (h : Sp a L i c nx last pre) {j : Nat} {e : Ed} (hj : L[j]? = some e) (hne : j ≠ c) : e.pos ≠ i := by
  rcases Nat.lt_or_ge j c with hlt | hge
  · have := h.ahead j e hj hlt; omega
  · have hcl : c < L.length := by have := (List.getElem?_eq_some_iff.1 hj).1; omega
    have hc : L[c]? = some L[c] := List.getElem?_eq_getElem hcl
    have h1 := h.later hc hj (by omega)
    have h2 := h.behind c _ hc (Nat.le_refl _)
    omega
def stays (a : Ls) (i nx : Nat) : Ls := if nx ≤ i ∧ i < a.length then [a.getD i []] else []
theorem drop_getD_one (a : Ls) (i : Nat) (h : i < a.length) : a.drop i = a.getD i [] :: a.drop (i + 1) := by
  rw [List.drop_eq_getElem_cons h]
  simp [List.getElem?_eq_getElem h]
/-- one line on, where no edit that is still to come stands at line i -/
theorem play_on (a : Ls) (R : List Ed) (i nx : Nat) (hi : i ≤ a.length) (hr : ∀ e ∈ R, (i : Int) + 1 ≤ e.pos ∧ e.pos ≤ a.length) : play a (max i nx) R = stays a i nx ++ play a (max (i + 1) nx) R := by
  unfold stays
  by_cases hn : nx ≤ i
  · rw [Nat.max_eq_left hn, Nat.max_eq_left (by omega)]
    by_cases hl : i < a.length
    · rw [if_pos ⟨hn, hl⟩]
      cases R with
      | nil => rw [play, play, drop_getD_one a i hl]; rfl
      | cons e R =>
        have := hr e (by simp)
        rw [play, play, drop_getD_one a i hl, show e.pos.toNat - i = e.pos.toNat - (i + 1) + 1 from by omega, List.take_succ_cons]
        rfl
    · rw [if_neg (by omega)]
      cases R with
      | nil => rw [play, play, List.drop_of_length_le (by omega), List.drop_of_length_le (by omega)]; rfl
      | cons e R => have := hr e (by simp); omega
  · rw [if_neg (by omega), Nat.max_eq_right (by omega), Nat.max_eq_right (by omega)]; rfl
theorem right_le (n : Nat) : ∀ (L : List Ed) (last : Int), -1 ≤ last → right n last L = true → ∀ e ∈ L, e.pos ≤ n
  | [], _, _, _, e, he => by cases he
  | a :: l, last, h1, hr, e, he => by
    obtain ⟨p, d, ep, ed, hpd, hlp, hne, hr'⟩ := right_head hr h1
    rcases List.mem_cons.1 he with rfl | he
    · rw [ep]; omega
    · exact right_le n l _ (by omega) hr' e he
theorem Sp.no (h : Sp a L i c nx last pre) (hi : i ≤ a.length) (hc : ∀ e, L[c]? = some e → e.pos ≠ i) : Sp a L (i + 1) c nx last (pre ++ stays a i nx) where
  cle := h.cle
  nle := h.nle
  low := h.low
  nl := h.nl
  ok := h.ok
  ahead := fun j e hj hlt => by have := h.ahead j e hj hlt; omega
  behind := fun j e hj hcj => by
    have h1 := h.behind j e hj hcj
    have h2 : e.pos ≠ i := by
      by_cases hjc : j = c
      · exact hc e (by rw [← hjc]; exact hj)
      · exact h.other hj hjc
    omega
  all := by
    rw [List.append_assoc, ← play_on a (L.drop c) i nx hi (fun e he => ?_)]
    · exact h.all
    · obtain ⟨j, hj⟩ := List.getElem?_of_mem he
      rw [List.getElem?_drop] at hj
      have h1 := h.behind _ e hj (by omega)
      have h2 : e.pos ≠ i := by
        by_cases hjc : c + j = c
        · exact hc e (by rw [← hjc]; exact hj)
        · exact h.other hj hjc
      exact ⟨by omega, right_le _ _ _ h.low h.ok e he⟩
theorem Sp.hit (h : Sp a L i c nx last pre) {e : Ed} (hc : L[c]? = some e) (he : e.pos = i) : ∃ d : Nat, e.del = d ∧ i + d ≤ a.length ∧ Sp a L (i + 1) (c + 1) (i + d) ((i + d : Nat) : Int) (pre ++ e.ins ++ stays a i (i + d)) := by
  have hr := h.ok
  have hdc := drop_at hc
  rw [hdc] at hr
  obtain ⟨p, d, ep, ed, hpd, hlp, hne, hr'⟩ := right_head hr h.low
  obtain rfl : p = i := by omega
  have hnl := h.nl
  have hcl := (List.getElem?_eq_some_iff.1 hc).1
  have hlat : ∀ x ∈ L.drop (c + 1), (p : Int) + 1 ≤ x.pos ∧ x.pos ≤ a.length := fun x hx => by
    have h1 := right_gt _ _ _ (by omega) hr' x hx
    exact ⟨by omega, right_le _ _ _ (by omega) hr' x hx⟩
  refine ⟨d, ed, hpd, ⟨by omega, hpd, by omega, by omega, hr', fun j x hj hlt => ?_, fun j x hj hcj => ?_, ?_⟩⟩
  · rcases Nat.lt_or_ge j c with hl | hl
    · have := h.ahead j x hj hl; omega
    · obtain rfl : j = c := by omega
      rw [hc] at hj
      injection hj with hj
      rw [← hj, he]; omega
  · have := hlat x (mem_drop hj hcj)
    omega
  · have h1 := h.all
    rw [hdc, Nat.max_eq_left (by omega), play] at h1
    simp only [ep, ed, Int.toNat_natCast, Nat.sub_self, List.take_zero, List.nil_append] at h1
    rw [List.append_assoc, List.append_assoc, ← play_on a (L.drop (c + 1)) p (p + d) (by omega) hlat, Nat.max_eq_right (by omega)]
    exact h1
theorem Sp.done (h : Sp a L i c nx last pre) (hi : a.length < i) : pre = play a 0 L := by
  have hcn : L.drop c = [] := by
    cases hd : L.drop c with
    | nil => rfl
    | cons e R =>
      have he : e ∈ L.drop c := by rw [hd]; simp
      have h1 := right_le _ _ _ h.low h.ok e he
      obtain ⟨j, hj⟩ := List.getElem?_of_mem he
      rw [List.getElem?_drop] at hj
      have h2 := h.behind _ e hj (by omega)
      omega
  have := h.all
  rw [hcn, play, List.drop_of_length_le (by omega), List.append_nil] at this
  exact this
theorem Sp.small (h : Sp a L i c nx last pre) : pre.length ≤ (play a 0 L).length := by
  have := congrArg List.length h.all
  rw [List.length_append] at this
  omega
end
end Go.Proofs.Ytcilenppjpnaoaa.Df
