/-
  What is true of the hunks of right edits: on lists alone.
-/
import Derived.Test.YtfmmececocilhaaHI
namespace Go.Proofs.Ytfmmececocilhaa.Hu
open Df

theorem lastF_delta (n : Nat) : ∀ (g : List Ed) (last z : Int), right n last g = true → -1 ≤ last → z ≤ last + 1 → z ≤ lastF z g + delta g
  | [], _, z, _, _, _ => by simp [lastF, delta]
  | e :: g, last, z, hr, hl, hz => by
    obtain ⟨p, d, ep, ed, hpd, hlp, hne, hr'⟩ := right_head hr hl
    have hf : fin e = ((p + d : Nat) : Int) := by unfold fin; rw [ep, ed]; omega
    have := lastF_delta n g _ ((p + d : Nat) : Int) hr' (by omega) (by omega)
    rw [lastF, delta, hf, ed]
    omega
theorem mkHs_cons (a : Ls) (r : Nat) (more : Int) (e : Ed) (l : List Ed) : mkHs a r more (e :: l) = oneH a r more (e :: (spl r e l).1) (from_ r e) ::
      mkHs a r (more + ((oneH a r more (e :: (spl r e l).1) (from_ r e)).bn - (oneH a r more (e :: (spl r e l).1) (from_ r e)).an)) (spl r e l).2 := by rw [mkHs]
theorem mkHs_nil (a : Ls) (r : Nat) (more : Int) : mkHs a r more [] = [] := by rw [mkHs]
theorem from_le (r : Nat) (e : Ed) (p : Nat) (h : e.pos = p) : from_ r e ≤ p := by unfold from_; omega
/-- a hunk of right edits -/
theorem one_facts (a : Ls) (r : Nat) (more : Int) (e : Ed) (g : List Ed) (last : Int) (hr : right a.length last (e :: g) = true) (hl : -1 ≤ last) (hb : 0 ≤ (from_ r e : Int) + more) :
    hright (oneH a r more (e :: g) (from_ r e)) = true ∧ hedits (oneH a r more (e :: g) (from_ r e)) = e :: g ∧ hedits (hturn (oneH a r more (e :: g) (from_ r e))) = turn a more (e :: g) ∧
      ((oneH a r more (e :: g) (from_ r e)).bn - (oneH a r more (e :: g) (from_ r e)).an = delta (e :: g)) ∧ (from_ r e : Int) + (oneH a r more (e :: g) (from_ r e)).an = min (lastF (fin e) g + r) a.length := by
  obtain ⟨p, d, ep, ed, hpd, hlp, hne, hr'⟩ := right_head hr hl
  have hf := from_le r e p ep
  have hz : ((from_ r e : Nat) : Int) ≤ last + 1 ∨ (∀ e' t, e :: g = e' :: t → ((from_ r e : Nat) : Int) ≤ e'.pos) := by
    refine .inr fun e' t h => ?_
    injection h with h1 _
    subst h1
    rw [ep]; omega
  obtain ⟨hg, _⟩ := pts_good a r (e :: g) (from_ r e) last hr hl hz (by omega)
  have hright' : hright (oneH a r more (e :: g) (from_ r e)) = true := by
    rw [hright_iff]
    exact ⟨okF_lay _ hg, by simp [oneH], by simpa [oneH] using hb, rfl, rfl⟩
  refine ⟨hright', ?_, ?_, ?_, ?_⟩
  · rw [hedits, oneH, edL_lay _ _ hg]
    exact pts_edits a r (e :: g) (from_ r e) last hr hl hz
  · rw [hedits, hturn, oneH]
    simp only
    rw [turnA_lay _ hg, edL_lay _ _ hg.swp]
    exact pts_turn a r (e :: g) (from_ r e) last more hr hl hz
  · exact pts_delta a r (e :: g) (from_ r e) last hr hl
  · have := pts_old a r (e :: g) (from_ r e) last hr hl hz (by omega)
    rw [lastF] at this
    simp only [oneH]
    omega
theorem mk_facts (a : Ls) (r : Nat) : ∀ (k : Nat) (l : List Ed) (more last e0 : Int), l.length ≤ k → right a.length last l = true → -1 ≤ last → 0 ≤ e0 → e0 ≤ last + 1 → (∀ e t, l = e :: t → e0 ≤ from_ r e) → 0 ≤ e0 + more →
    (∀ h ∈ mkHs a r more l, hright h = true) ∧ (mkHs a r more l).flatMap hedits = l ∧ (mkHs a r more l).flatMap (fun h => hedits (hturn h)) = turn a more l
  | _, [], more, _, _, _, _, _, _, _, _, _ => by
    rw [mkHs_nil]
    exact ⟨(fun h hh => by cases hh), rfl, rfl⟩
  | 0, e :: l, _, _, _, h, _, _, _, _, _, _ => by simp at h
  | k + 1, e :: l, more, last, e0, hk, hr, hl, he0, hel, hgap, hb => by
    have hsp := spl_eq r l e
    have hsl := spl_len r l e
    have hsg := spl_gap r l e
    obtain ⟨g, hg⟩ : ∃ g, g = (spl r e l).1 := ⟨_, rfl⟩
    obtain ⟨t, ht⟩ : ∃ t, t = (spl r e l).2 := ⟨_, rfl⟩
    rw [mkHs_cons, ← hg, ← ht]
    rw [← hg, ← ht] at hsp hsl hsg
    have hr2 : right a.length last ((e :: g) ++ t) = true := by rw [List.cons_append, hsp]; exact hr
    obtain ⟨r1, r2, r3, r4⟩ := right_app a.length (e :: g) t last hr2 hl
    have hge := hgap e l rfl
    obtain ⟨f1, f2, f3, f4, f5⟩ := one_facts a r more e g last r1 hl (by omega)
    rw [f4]
    have hld := lastF_delta a.length (e :: g) last e0 r1 hl hel
    rw [lastF] at hld r2 r3 r4
    simp only [List.length_cons] at hk
    have hl0 : 0 ≤ lastF (fin e) g := by
      obtain ⟨p, d, ep, ed, hpd, hlp, hne, hr'⟩ := right_head r1 hl
      have hf : fin e = ((p + d : Nat) : Int) := by unfold fin; rw [ep, ed]; omega
      have := (right_app a.length g [] _ (by rw [List.append_nil]; exact hr') (by omega)).2.2.1
      rw [hf]; omega
    have ih := mk_facts a r k t (more + delta (e :: g)) _ (lastF (fin e) g) (by omega) r2 (by omega) (by omega) (by omega) (fun f t' h => by
      have := hsg f t' h
      unfold from_
      omega) (by omega)
    obtain ⟨i1, i2, i3⟩ := ih
    refine ⟨fun h hh => ?_, ?_, ?_⟩
    · rcases List.mem_cons.1 hh with rfl | hh
      · exact f1
      · exact i1 h hh
    · rw [List.flatMap_cons, f2, i2, List.cons_append, hsp]
    · rw [List.flatMap_cons, f3, i3, ← turn_append, List.cons_append, hsp]
/-- hunks rise and are apart, up to n; b: is there one ahead that ends at e? -/
def rise (n : Int) : Bool → Int → List Hk → Prop
  | _, e, [] => e ≤ n
  | b, e, h :: t => e ≤ h.a ∧ (b = true → e ≠ h.a) ∧ rise n true (h.a + h.an) t
theorem mk_rise (a : Ls) (r : Nat) : ∀ (k : Nat) (l : List Ed) (more last e0 : Int) (b : Bool), l.length ≤ k → right a.length last l = true → -1 ≤ last → e0 ≤ a.length → (∀ e t, l = e :: t → e0 ≤ from_ r e ∧ (b = true → e0 ≠ from_ r e)) → 0 ≤ last + 1 + more →
    rise a.length b e0 (mkHs a r more l)
  | _, [], more, _, _, _, _, _, _, h, _, _ => by
    rw [mkHs_nil]
    exact h
  | 0, e :: l, _, _, _, _, h, _, _, _, _, _ => by simp at h
  | k + 1, e :: l, more, last, e0, b, hk, hr, hl, he0, hgap, hb => by
    have hsp := spl_eq r l e
    have hsl := spl_len r l e
    have hsg := spl_gap r l e
    obtain ⟨g, hg⟩ : ∃ g, g = (spl r e l).1 := ⟨_, rfl⟩
    obtain ⟨t, ht⟩ : ∃ t, t = (spl r e l).2 := ⟨_, rfl⟩
    rw [mkHs_cons, ← hg, ← ht]
    rw [← hg, ← ht] at hsp hsl hsg
    have hr2 : right a.length last ((e :: g) ++ t) = true := by rw [List.cons_append, hsp]; exact hr
    obtain ⟨r1, r2, r3, r4⟩ := right_app a.length (e :: g) t last hr2 hl
    obtain ⟨hge, hgn⟩ := hgap e l rfl
    obtain ⟨p, d, ep, ed, hpd, hlp, hne, hr'⟩ := right_head hr hl
    have hz : ((from_ r e : Nat) : Int) ≤ last + 1 ∨ (∀ e' t, e :: g = e' :: t → ((from_ r e : Nat) : Int) ≤ e'.pos) := by
      refine .inr fun e' t h => ?_
      injection h with h1 _
      subst h1
      have := from_le r e p ep
      rw [ep]; omega
    have f4 := pts_delta a r (e :: g) (from_ r e) last r1 hl
    have f5 := pts_old a r (e :: g) (from_ r e) last r1 hl hz (by have := from_le r e p ep; omega)
    have hld := lastF_delta a.length (e :: g) last (last + 1) r1 hl (Int.le_refl _)
    rw [lastF] at hld r2 r3 f5
    simp only [List.length_cons] at hk
    refine ⟨hge, hgn, ?_⟩
    simp only [oneH]
    rw [f4]
    refine mk_rise a r k t (more + delta (e :: g)) _ _ true (by omega) r2 (by omega) (by omega) (fun f t' h => ?_) (by omega)
    have := hsg f t' h
    unfold from_ at *
    exact ⟨by omega, fun _ => by omega⟩
/-- how often edits are far apart -/
def gaps (r : Nat) : Ed → List Ed → Nat
  | _, [] => 0
  | e, f :: l => (if f.pos - fin e ≤ 2 * r then 0 else 1) + gaps r f l
theorem spl_gaps (r : Nat) : ∀ (l : List Ed) (e : Ed), gaps r e l = match (spl r e l).2 with | [] => 0 | f :: t => 1 + gaps r f t
  | [], _ => rfl
  | f :: l, e => by
    rw [gaps, spl]
    by_cases h : f.pos - fin e ≤ 2 * r
    · rw [if_pos h, if_pos h, Nat.zero_add]; exact spl_gaps r l f
    · rw [if_neg h, if_neg h]
theorem mk_count (a : Ls) (r : Nat) : ∀ (k : Nat) (l : List Ed) (e : Ed) (more : Int), l.length ≤ k → (mkHs a r more (e :: l)).length = 1 + gaps r e l
  | k, l, e, more, hk => by
    rw [mkHs_cons, List.length_cons, spl_gaps]
    have hsl := spl_len r l e
    obtain ⟨t, ht⟩ : ∃ t, t = (spl r e l).2 := ⟨_, rfl⟩
    rw [← ht] at hsl ⊢
    cases t with
    | nil => rw [mkHs_nil]; rfl
    | cons f t =>
      cases k with
      | zero => simp at hsl; omega
      | succ k =>
        rw [mk_count a r k t f _ (by simp at hsl; omega)]
        show 1 + gaps r f t + 1 = 1 + (1 + gaps r f t)
        omega
theorem gaps_mono (r r' : Nat) (h : r ≤ r') : ∀ (l : List Ed) (e : Ed), gaps r' e l ≤ gaps r e l
  | [], _ => Nat.le_refl _
  | f :: l, e => by
    have := gaps_mono r r' h l f
    rw [gaps, gaps]
    split <;> split <;> omega
theorem mk_fewer (a : Ls) (r r' : Nat) (h : r ≤ r') (l : List Ed) : (mkHs a r' 0 l).length ≤ (mkHs a r 0 l).length := by
  cases l with
  | nil => rw [mkHs_nil, mkHs_nil]; exact Nat.le_refl _
  | cons e l =>
    rw [mk_count a r' _ l e _ (Nat.le_refl _), mk_count a r _ l e _ (Nat.le_refl _)]
    have := gaps_mono r r' h l e
    omega
theorem mk_none (a : Ls) (r : Nat) (more : Int) (l : List Ed) : ((mkHs a r more l).length = 0) ↔ l.length = 0 := by
  cases l with
  | nil => rw [mkHs_nil]; simp
  | cons e l => rw [mk_count a r _ l e _ (Nat.le_refl _)]; simp
theorem mk_le (a : Ls) (r : Nat) (more : Int) (l : List Ed) : (mkHs a r more l).length ≤ l.length := by
  cases l with
  | nil => rw [mkHs_nil]; exact Nat.le_refl _
  | cons e l =>
    rw [mk_count a r _ l e _ (Nat.le_refl _), List.length_cons]
    have : ∀ (l : List Ed) (e : Ed), gaps r e l ≤ l.length := by
      intro l
      induction l with
      | nil => intro e; exact Nat.le_refl _
      | cons f l ih => intro e; have := ih f; rw [gaps, List.length_cons]; split <;> omega
    have := this l e
    omega
/-- all of it, from the start -/
theorem mk_start (a : Ls) (r : Nat) (l : List Ed) (hr : right a.length (-1) l = true) :
    (∀ h ∈ mkHs a r 0 l, hright h = true) ∧ (mkHs a r 0 l).flatMap hedits = l ∧ (mkHs a r 0 l).flatMap (fun h => hedits (hturn h)) = turn a 0 l ∧ rise a.length false 0 (mkHs a r 0 l) := by
  obtain ⟨h1, h2, h3⟩ := mk_facts a r _ l 0 (-1) 0 (Nat.le_refl _) hr (by omega) (by omega) (by omega) (fun e t _ => by omega) (by omega)
  exact ⟨h1, h2, h3, mk_rise a r _ l 0 (-1) 0 false (Nat.le_refl _) hr (by omega) (by omega) (fun e t _ => ⟨by omega, fun h => by cases h⟩) (by omega)⟩
/-- how many lines a hunk has -/
theorem pts_len (a : Ls) (r : Nat) : ∀ (g : List Ed) (z : Nat) (last : Int), right a.length last g = true → -1 ≤ last → z ≤ a.length → (lay (pts a r z g)).length ≤ many 45 (lay (pts a r z g)) + size g
  | [], z, _, _, _, _ => by
    rw [pts, size]
    split
    · simp [lay, many]
    · simp only [lay, List.append_nil]
      rw [many_old, layP, List.length_append, List.length_append, mk_len, mk_len, mk_len]
      simp
  | e :: g, z, last, hr, hl, hz => by
    obtain ⟨p, d, ep, ed, hpd, hlp, hne, hr'⟩ := right_head hr hl
    have ih := pts_len a r g (p + d) _ hr' (by omega) hpd
    rw [pts, ep, ed]
    simp only [Int.toNat_natCast]
    rw [lay, many_append, many_old, layP, size, ed]
    simp only [List.length_append, mk_len, List.length_take, List.length_drop]
    omega
end Go.Proofs.Ytfmmececocilhaa.Hu
