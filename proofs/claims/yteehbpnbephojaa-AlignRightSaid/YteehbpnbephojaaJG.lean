/-
  The reference's clusters, on lists.
-/
import Derived.Test.YteehbpnbephojaaJF
namespace Go.Proofs.Yteehbpnbephojaa.Al
open Go.Proofs.Yteehbpnbephojaa.Df

/-- do two edits meet? -/
def meetE (e f : Ed) : Bool := decide (e.pos ≤ f.pos + f.del) && decide (f.pos ≤ e.pos + e.del)
theorem meetE_comm (e f : Ed) : meetE e f = meetE f e := Bool.and_comm _ _
theorem meetE_iff {e f : Ed} : meetE e f = true ↔ e.pos ≤ f.pos + f.del ∧ f.pos ≤ e.pos + e.del := by simp [meetE]
/-- each but the first begins where one ahead of it ends, at the latest -/
def Chn (T : List (Bool × Ed)) : Prop := ∀ (b : Nat) p, 0 < b → T[b]? = some p → ∃ (c : Nat) (q : Bool × Ed), c < b ∧ T[c]? = some q ∧ p.2.pos ≤ q.2.pos + q.2.del
theorem Chn.one (p : Bool × Ed) : Chn [p] := by
  intro b q hb h
  have := (List.getElem?_eq_some_iff.1 h).1
  simp at this; omega
theorem tak_chn : ∀ (l : List (Bool × Ed)) (c : Cl) (U : List (Bool × Ed)), Chn U → (∃ q ∈ U, c.to ≤ q.2.pos + q.2.del) → Chn (U ++ tak c l)
  | [], c, U, h, _ => by rw [tak, List.append_nil]; exact h
  | (s, e) :: r, c, U, h, ⟨q, hq, hc⟩ => by
    rw [tak]
    split
    · rw [List.append_nil]; exact h
    · rename_i hp
      have e1 : U ++ (s, e) :: tak (c.take s e) r = (U ++ [(s, e)]) ++ tak (c.take s e) r := by simp
      rw [e1]
      have hto : (c.take s e).to = max c.to (e.pos + e.del) := by cases s <;> rfl
      refine tak_chn r _ _ ?_ ?_
      · intro b p hb hbp
        rcases Nat.lt_or_ge b U.length with hlt | hge
        · rw [List.getElem?_append_left hlt] at hbp
          obtain ⟨k, x, hk, hx, hle⟩ := h b p hb hbp
          exact ⟨k, x, hk, by rw [List.getElem?_append_left (by omega)]; exact hx, hle⟩
        · obtain ⟨k, hk⟩ := List.getElem?_of_mem hq
          have hkl := (List.getElem?_eq_some_iff.1 hk).1
          have hbl := (List.getElem?_eq_some_iff.1 hbp).1
          simp at hbl
          rw [List.getElem?_append_right hge, show b - U.length = 0 by omega] at hbp
          simp at hbp
          subst hbp
          exact ⟨k, q, by omega, by rw [List.getElem?_append_left hkl]; exact hk, by simp only; omega⟩
      · rw [hto]
        rcases Int.le_total c.to (e.pos + e.del) with hm | hm
        · exact ⟨(s, e), by simp, by simp only; omega⟩
        · exact ⟨q, by simp [hq], by omega⟩
/-- a cluster -/
def clu (d : Bool) (e : Ed) (r : List (Bool × Ed)) : List (Bool × Ed) := (d, e) :: tak ((Cl.zero e.pos).take d e) r
theorem clu_chn (d : Bool) (e : Ed) (r : List (Bool × Ed)) (h : 0 ≤ e.pos) (h' : 0 ≤ e.del) : Chn (clu d e r) := by
  have := tak_chn r ((Cl.zero e.pos).take d e) [(d, e)] (Chn.one _) ⟨(d, e), by simp, by rw [take_first d e h h']; exact Int.le_refl _⟩
  exact this
section
variable {n : Nat} {E : Nat → Bool × Ed} {T : List (Bool × Ed)}
theorem path_back (hc : Chn T) (hs : Srt T) (hd : ∀ p ∈ T, 0 ≤ p.2.del) (hi : ∀ p ∈ T, ∃ i, i < n ∧ E i = p) : ∀ (b a : Nat) (i j : Nat), a < b → i < n → j < n → T[a]? = some (E i) → T[b]? = some (E j) →
    Rch n (fun x y => meetE (E x).2 (E y).2) (b - a + 1) i j := by
  intro b
  induction b using Nat.strongRecOn with
  | ind b ih =>
    intro a i j hab hin hjn ha hb
    obtain ⟨c, q, hcb, hq, hle⟩ := hc b (E j) (by omega) hb
    obtain ⟨k, hk, rfl⟩ := hi q (List.mem_of_getElem? hq)
    have srt : ∀ (x y : Nat) p p', x < y → T[x]? = some p → T[y]? = some p' → p.2.pos ≤ p'.2.pos := by
      intro x y p p' hxy hx hy
      obtain ⟨hx1, hx2⟩ := List.getElem?_eq_some_iff.1 hx
      obtain ⟨hy1, hy2⟩ := List.getElem?_eq_some_iff.1 hy
      have := List.pairwise_iff_getElem.1 hs x y hx1 hy1 hxy
      rwa [hx2, hy2] at this
    have dk := hd _ (List.mem_of_getElem? hq)
    have dj := hd _ (List.mem_of_getElem? hb)
    have di := hd _ (List.mem_of_getElem? ha)
    have s1 := srt c b _ _ hcb hq hb
    have s2 := srt a b _ _ hab ha hb
    have hm : meetE (E j).2 (E k).2 = true := meetE_iff.2 ⟨hle, by omega⟩
    rcases Nat.lt_trichotomy c a with h | h | h
    · have s3 := srt c a _ _ h hq ha
      have hm2 : meetE (E k).2 (E i).2 = true := meetE_iff.2 ⟨by omega, by omega⟩
      exact Rch.le (t := 2) (.inr ⟨k, hk, hm, Rch.one hin hm2⟩) (by omega)
    · subst h
      rw [hq] at ha
      have hki : E k = E i := Option.some.inj ha
      rw [hki] at hm
      exact (Rch.one hin hm).le (by omega)
    · have := ih c hcb a i k h hin hk ha hq
      exact Rch.le (t := c - a + 1 + 1) (.inr ⟨k, hk, hm, this⟩) (by omega)
theorem path_all (hc : Chn T) (hs : Srt T) (hd : ∀ p ∈ T, 0 ≤ p.2.del) (hi : ∀ p ∈ T, ∃ i, i < n ∧ E i = p) (hl : T.length ≤ n) {i j : Nat} (hin : i < n) (hjn : j < n) (h1 : E i ∈ T) (h2 : E j ∈ T) :
    Rch n (fun x y => meetE (E x).2 (E y).2) n j i := by
  obtain ⟨a, ha⟩ := List.getElem?_of_mem h1
  obtain ⟨b, hb⟩ := List.getElem?_of_mem h2
  have la := (List.getElem?_eq_some_iff.1 ha).1
  have lb := (List.getElem?_eq_some_iff.1 hb).1
  rcases Nat.lt_trichotomy a b with h | h | h
  · exact ((path_back hc hs hd hi b a i j h hin hjn ha hb).symm (fun _ _ => meetE_comm _ _) hjn hin).le (by omega)
  · subst h
    rw [ha] at hb
    have e : E i = E j := Option.some.inj hb
    have := hd _ h2
    refine (Rch.one hjn ?_).le (by omega)
    show meetE (E i).2 (E j).2 = true
    rw [e]
    exact meetE_iff.2 ⟨by omega, by omega⟩
  · exact (path_back hc hs hd hi a b j i h hjn hin hb ha).le (by omega)
end
end Go.Proofs.Yteehbpnbephojaa.Al
