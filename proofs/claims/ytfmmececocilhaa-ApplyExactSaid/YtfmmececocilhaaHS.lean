/-
  Bounds of hunks; what comes in edits between two lists: on lists alone.
-/
import Derived.Test.YtfmmececocilhaaHJ
namespace Go.Proofs.Ytfmmececocilhaa.Hu
open Df

theorem size_nn : ∀ L : List Ed, 0 ≤ size L
  | [] => Int.le_refl _
  | e :: l => by rw [size]; have := size_nn l; omega
theorem delta_le (n : Nat) : ∀ (g : List Ed) (last : Int), right n last g = true → -1 ≤ last → -size g ≤ delta g ∧ delta g ≤ size g
  | [], _, _, _ => by simp [delta, size]
  | e :: g, last, hr, hl => by
    obtain ⟨p, d, ep, ed, hpd, hlp, hne, hr'⟩ := right_head hr hl
    have := delta_le n g _ hr' (by omega)
    rw [delta, size]
    omega
theorem pts_mem (a : Ls) (r M : Nat) (ha : ∀ y ∈ a, y.length ≤ M) : ∀ (g : List Ed) (z : Nat), (∀ e ∈ g, ∀ y ∈ e.ins, y.length ≤ M) → ∀ x ∈ lay (pts a r z g), x.length ≤ M + 1
  | [], z, _, x, hx => by
    rw [pts] at hx
    split at hx
    · cases hx
    · simp only [lay, layP, mk, List.map_nil, List.append_nil, List.mem_map] at hx
      obtain ⟨y, hy, rfl⟩ := hx
      have := ha y (List.mem_of_mem_drop (List.mem_of_mem_take hy))
      simp; omega
  | e :: g, z, he, x, hx => by
    rw [pts, lay, List.mem_append] at hx
    rcases hx with hx | hx
    · simp only [layP, mk, List.mem_append, List.mem_map] at hx
      rcases hx with ⟨y, hy, rfl⟩ | ⟨y, hy, rfl⟩ | ⟨y, hy, rfl⟩
      · have := ha y (List.mem_of_mem_drop (List.mem_of_mem_take hy))
        simp; omega
      · have := ha y (List.mem_of_mem_drop (List.mem_of_mem_take hy))
        simp; omega
      · have := he e (List.mem_cons_self ..) y hy
        simp; omega
    · exact pts_mem a r M ha g _ (fun e' h' => he e' (List.mem_cons_of_mem _ h')) x hx
theorem mk_bounds (a : Ls) (r M : Nat) (ha : ∀ y ∈ a, y.length ≤ M) : ∀ (k : Nat) (l : List Ed) (more last : Int), l.length ≤ k → right a.length last l = true → -1 ≤ last → (∀ e ∈ l, ∀ y ∈ e.ins, y.length ≤ M) →
    ∀ h ∈ mkHs a r more l, (h.lines.length : Int) ≤ a.length + size l ∧ (0 ≤ h.a ∧ h.a ≤ a.length) ∧ (more - size l ≤ h.b ∧ h.b ≤ a.length + more + size l) ∧ ∀ x ∈ h.lines, x.length ≤ M + 1
  | _, [], more, _, _, _, _, _, h, hh => by rw [mkHs_nil] at hh; cases hh
  | 0, e :: l, _, _, h, _, _, _, _, _ => by simp at h
  | k + 1, e :: l, more, last, hk, hr, hl, hi, h, hh => by
    have hsp := spl_eq r l e
    have hsl := spl_len r l e
    obtain ⟨g, hg⟩ : ∃ g, g = (spl r e l).1 := ⟨_, rfl⟩
    obtain ⟨t, ht⟩ : ∃ t, t = (spl r e l).2 := ⟨_, rfl⟩
    rw [mkHs_cons, ← hg, ← ht] at hh
    rw [← hg, ← ht] at hsp hsl
    have hcons : e :: l = (e :: g) ++ t := by rw [List.cons_append, hsp]
    have hr2 : right a.length last ((e :: g) ++ t) = true := by rw [← hcons]; exact hr
    obtain ⟨r1, r2, r3, r4⟩ := right_app a.length (e :: g) t last hr2 hl
    have hsz : size (e :: l) = size (e :: g) + size t := by rw [hcons, size_append]
    have h1 := size_nn (e :: g)
    have h2 := size_nn t
    have hd := delta_le a.length (e :: g) last r1 hl
    have f4 := pts_delta a r (e :: g) (from_ r e) last r1 hl
    simp only [List.length_cons] at hk
    rcases List.mem_cons.1 hh with rfl | hh
    · obtain ⟨p, d, ep, ed, hpd, hlp, hne, hr'⟩ := right_head r1 hl
      have hf := from_le r e p ep
      have h3 := pts_len a r (e :: g) (from_ r e) last r1 hl (by omega)
      have h4 := pts_old a r (e :: g) (from_ r e) last r1 hl (.inr fun e' t' h => by
        injection h with h1 _
        rw [← h1, ep]; omega) (by omega)
      simp only [oneH]
      refine ⟨by omega, by omega, by omega, fun x hx => ?_⟩
      exact pts_mem a r M ha (e :: g) _ (fun e' h' => hi e' (by rw [hcons]; exact List.mem_append_left _ h')) x hx
    · simp only [oneH] at hh
      rw [f4] at hh
      obtain ⟨i1, i2, i3, i4⟩ := mk_bounds a r M ha k t (more + delta (e :: g)) _ (by omega) r2 (by omega) (fun e' h' => hi e' (by rw [hcons]; exact List.mem_append_right _ h')) h hh
      exact ⟨by omega, i2, by omega, i4⟩
theorem emit_ins (pos del : Nat) (ins : Ls) (e : Ed) (h : e ∈ emit pos del ins) : e.ins = ins := by
  unfold emit at h
  split at h
  · cases h
  · simp at h; rw [h]
theorem go_ins (x y : Ls) (pos del : Nat) (ins : Ls) : ∀ e ∈ go x y pos del ins, ∀ z ∈ e.ins, z ∈ ins ∨ z ∈ y := by
  refine go_ind (fun x y pos del ins r => ∀ e ∈ r, ∀ z ∈ e.ins, z ∈ ins ∨ z ∈ y) ?_ ?_ ?_ ?_ ?_ ?_ _ x y pos del ins (Nat.le_refl _)
  · intro pos del ins e he z hz
    rw [emit_ins _ _ _ _ he] at hz
    exact .inl hz
  · intro b y pos del ins r h e he z hz
    rcases h e he z hz with h | h
    · rcases List.mem_append.1 h with h | h
      · exact .inl h
      · simp at h; rw [h]; exact .inr (List.mem_cons_self ..)
    · exact .inr (List.mem_cons_of_mem _ h)
  · intro a x pos del ins r h e he z hz
    exact h e he z hz
  · intro a x y pos del ins r h e he z hz
    rcases List.mem_append.1 he with he | he
    · rw [emit_ins _ _ _ _ he] at hz
      exact .inl hz
    · rcases h e he z hz with h | h
      · cases h
      · exact .inr (List.mem_cons_of_mem _ h)
  · intro a b x y pos del ins r _ _ h e he z hz
    exact h e he z hz
  · intro a b x y pos del ins r _ _ h e he z hz
    rcases h e he z hz with h | h
    · rcases List.mem_append.1 h with h | h
      · exact .inl h
      · simp at h; rw [h]; exact .inr (List.mem_cons_self ..)
    · exact .inr (List.mem_cons_of_mem _ h)
/-- what comes is of the other list -/
theorem D_ins (a b : Ls) : ∀ e ∈ D a b, ∀ z ∈ e.ins, z ∈ b := by
  intro e he z hz
  have hm : ∀ z ∈ mid b (fr a b) (bk a b), z ∈ b := fun z hz => by
    unfold mid at hz
    exact List.mem_of_mem_drop (List.mem_of_mem_take hz)
  unfold D at he
  split at he
  · rcases go_ins _ _ _ _ _ e he z hz with h | h
    · cases h
    · exact hm z h
  · rw [emit_ins _ _ _ _ he] at hz
    exact hm z hz
end Go.Proofs.Ytfmmececocilhaa.Hu
