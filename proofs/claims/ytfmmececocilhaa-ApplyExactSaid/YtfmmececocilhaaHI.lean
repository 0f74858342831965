/-
  The hunks of edits: on lists alone.
-/
import Derived.Test.YtfmmececocilhaaHA
namespace Go.Proofs.Ytfmmececocilhaa.Hu
open Df

def hedits (h : Hk) : List Ed := edL h.a none h.lines
def hturn (h : Hk) : Hk := ⟨h.b, h.bn, h.a, h.an, turnA [] [] h.lines⟩
theorem hright_iff (h : Hk) : hright h = true ↔ okF false h.lines = true ∧ 0 ≤ h.a ∧ 0 ≤ h.b ∧ h.an = many 45 h.lines ∧ h.bn = many 43 h.lines := by
  unfold hright
  simp only [Bool.and_eq_true, decide_eq_true_eq]
  exact ⟨fun ⟨a, ⟨⟨b, c⟩, d⟩, e⟩ => ⟨a, b, c, d, e⟩, fun ⟨a, b, c, d, e⟩ => ⟨a, ⟨⟨b, c⟩, d⟩, e⟩⟩
/-- a right hunk by its parts -/
theorem hparts {h : Hk} (hr : hright h = true) : ∃ ps, Good ps ∧ h.lines = lay ps ∧ hedits h = edP h.a ps ∧ (hturn h).lines = lay (ps.map swp) ∧ hright (hturn h) = true ∧ hturn (hturn h) = h ∧ hedits (hturn h) = edP h.b (ps.map swp) := by
  obtain ⟨h1, h2, h3, h4, h5⟩ := (hright_iff h).1 hr
  obtain ⟨ps, hg, hl, _⟩ := parts_of _ _ h1
  have ht : (hturn h).lines = lay (ps.map swp) := by rw [hturn, hl, turnA_lay ps hg]
  refine ⟨ps, hg, hl, by rw [hedits, hl, edL_lay ps _ hg], ht, ?_, ?_, ?_⟩
  · rw [hright_iff, ht]
    refine ⟨okF_lay _ hg.swp, h3, h2, ?_, ?_⟩
    · rw [(many_lay ps).1, ← hl]; exact h5
    · rw [(many_lay ps).2, ← hl]; exact h4
  · cases h
    simp only [hturn] at ht ⊢
    rw [ht, turnA_lay _ hg.swp, swp_swp, ← hl]
  · rw [hedits, ht, edL_lay _ _ hg.swp]; rfl
theorem edP_swp_len : ∀ (ps : List Pt) (z z' : Int), (edP z (ps.map swp)).length = (edP z' ps).length
  | [], _, _ => rfl
  | p :: r, z, z' => by
    rw [List.map_cons, edP, edP, List.length_append, List.length_append, edP_swp_len r _ (z' + p.st.length + p.gn.length)]
    congr 1
    unfold emitZ swp
    have key : (((p.cm.length : Int) = 0 ∧ p.gn = []) ↔ ((p.gn.length : Int) = 0 ∧ p.cm = [])) := by
      constructor
      · rintro ⟨h1, h2⟩; exact ⟨by rw [h2]; rfl, List.eq_nil_of_length_eq_zero (by omega)⟩
      · rintro ⟨h1, h2⟩; exact ⟨by rw [h2]; rfl, List.eq_nil_of_length_eq_zero (by omega)⟩
    by_cases h : ((p.gn.length : Int) = 0 ∧ p.cm = [])
    · rw [if_pos h, if_pos (key.2 h)]
    · rw [if_neg h, if_neg fun k => h (key.1 k)]; rfl

/-- behind an edit -/
def fin (e : Ed) : Int := e.pos + e.del
/-- those behind a first edit that are in one hunk with it, and the others -/
def spl (r : Nat) : Ed → List Ed → List Ed × List Ed
  | _, [] => ([], [])
  | e, f :: l => if f.pos - fin e ≤ 2 * r then (f :: (spl r f l).1, (spl r f l).2) else ([], f :: l)
theorem spl_eq (r : Nat) : ∀ (l : List Ed) (e : Ed), (spl r e l).1 ++ (spl r e l).2 = l
  | [], _ => rfl
  | f :: l, e => by
    rw [spl]
    split
    · rw [List.cons_append, spl_eq r l f]
    · rfl
theorem spl_len (r : Nat) (l : List Ed) (e : Ed) : (spl r e l).1.length + (spl r e l).2.length = l.length := by
  have := congrArg List.length (spl_eq r l e)
  rwa [List.length_append] at this
def lastF : Int → List Ed → Int
  | z, [] => z
  | _, e :: l => lastF (fin e) l
theorem spl_gap (r : Nat) : ∀ (l : List Ed) (e : Ed) (f : Ed) (t : List Ed), (spl r e l).2 = f :: t → 2 * r < f.pos - lastF (fin e) (spl r e l).1
  | [], _, _, _, h => by cases h
  | f' :: l, e, f, t, h => by
    rw [spl] at h ⊢
    split at h
    · rename_i hc
      rw [if_pos hc, lastF]
      exact spl_gap r l f' f t h
    · rename_i hc
      rw [if_neg hc, lastF]
      simp only [List.cons.injEq] at h
      rw [← h.1]; omega
/-- a hunk's parts: lines from 'z' on -/
def pts (a : Ls) (r : Nat) : Nat → List Ed → List Pt
  | z, [] => if (a.drop z).take r = [] then [] else [⟨(a.drop z).take r, [], []⟩]
  | z, e :: g => ⟨(a.drop z).take (e.pos.toNat - z), (a.drop e.pos.toNat).take e.del.toNat, e.ins⟩ :: pts a r (e.pos.toNat + e.del.toNat) g
/-- with which line a hunk begins -/
def from_ (r : Nat) (e : Ed) : Nat := (e.pos - r).toNat
def oneH (a : Ls) (r : Nat) (more : Int) (g : List Ed) (z : Nat) : Hk :=
  ⟨z, many 45 (lay (pts a r z g)), z + more, many 43 (lay (pts a r z g)), lay (pts a r z g)⟩
def mkHs (a : Ls) (r : Nat) : Int → List Ed → List Hk
  | _, [] => []
  | more, e :: l => oneH a r more (e :: (spl r e l).1) (from_ r e) ::
      mkHs a r (more + ((oneH a r more (e :: (spl r e l).1) (from_ r e)).bn - (oneH a r more (e :: (spl r e l).1) (from_ r e)).an)) (spl r e l).2
termination_by _ l => l.length
decreasing_by
  have := spl_len r l e
  simp only [List.length_cons]
  omega
theorem right_app (n : Nat) : ∀ (g t : List Ed) (last : Int), right n last (g ++ t) = true → -1 ≤ last → right n last g = true ∧ right n (lastF last g) t = true ∧ last ≤ lastF last g ∧ (g ≠ [] → lastF last g ≤ n)
  | [], t, last, h, _ => ⟨rfl, h, Int.le_refl _, fun h => absurd rfl h⟩
  | e :: g, t, last, h, hl => by
    obtain ⟨p, d, ep, ed, hpd, hlp, hne, hr⟩ := right_head h hl
    obtain ⟨k1, k2, k3, k4⟩ := right_app n g t _ hr (by omega)
    have hf : fin e = ((p + d : Nat) : Int) := by unfold fin; rw [ep, ed]; omega
    rw [lastF, hf]
    refine ⟨?_, k2, by omega, fun _ => ?_⟩
    · rw [List.cons_append, right_cons] at h
      rw [right_cons]
      refine ⟨h.1, ?_⟩
      rw [ep, ed]
      exact k1
    · cases g with
      | nil => rw [lastF]; omega
      | cons _ _ => exact k4 (by simp)
theorem pts_good (a : Ls) (r : Nat) : ∀ (g : List Ed) (z : Nat) (last : Int), right a.length last g = true → -1 ≤ last → (z : Int) ≤ last + 1 ∨ (∀ e t, g = e :: t → (z : Int) ≤ e.pos) → z ≤ a.length →
    Good (pts a r z g) ∧ ((z : Int) = last → ∀ q t, pts a r z g = q :: t → q.st ≠ [])
  | [], z, last, _, _, _, hz => by
    rw [pts]
    split
    · exact ⟨trivial, fun _ q t h => by cases h⟩
    · rename_i h
      exact ⟨⟨.inl h, (fun q t h => by cases h), trivial⟩, fun _ q t h' => by cases h'; exact h⟩
  | e :: g, z, last, hr, hl, hzl, hz => by
    obtain ⟨p, d, ep, ed, hpd, hlp, hne, hr'⟩ := right_head hr hl
    obtain ⟨k1, k2⟩ := pts_good a r g (p + d) _ hr' (by omega) (.inl (by omega)) hpd
    have hzp : z ≤ p := by
      rcases hzl with h | h
      · omega
      · have := h e g rfl; omega
    rw [pts, ep, ed]
    simp only [Int.toNat_natCast]
    have hgc : (a.drop p).take d ≠ [] ∨ e.ins ≠ [] := by
      rcases hne with h | h
      · left
        intro h0
        have := congrArg List.length h0
        rw [List.length_take, List.length_drop, List.length_nil] at this
        omega
      · exact .inr h
    refine ⟨⟨?_, fun q t h => ⟨hgc, k2 rfl q t h⟩, k1⟩, fun hzl q t h => ?_⟩
    · rcases hgc with h | h
      · exact .inr (.inl h)
      · exact .inr (.inr h)
    · injection h with h1 _
      rw [← h1]
      intro h0
      have := congrArg List.length h0
      simp only [List.length_take, List.length_drop, List.length_nil] at this
      omega
theorem pts_edits (a : Ls) (r : Nat) : ∀ (g : List Ed) (z : Nat) (last : Int), right a.length last g = true → -1 ≤ last → (z : Int) ≤ last + 1 ∨ (∀ e t, g = e :: t → (z : Int) ≤ e.pos) → edP z (pts a r z g) = g
  | [], z, last, _, _, _ => by
    rw [pts]
    split
    · rfl
    · rw [edP, edP, emitZ, if_pos ⟨rfl, rfl⟩]; rfl
  | e :: g, z, last, hr, hl, hzl => by
    obtain ⟨p, d, ep, ed, hpd, hlp, hne, hr'⟩ := right_head hr hl
    have ih := pts_edits a r g (p + d) _ hr' (by omega) (.inl (by omega))
    have hzp : z ≤ p := by
      rcases hzl with h | h
      · omega
      · have := h e g rfl; omega
    rw [pts, ep, ed]
    simp only [Int.toNat_natCast]
    rw [edP]
    simp only [List.length_take, List.length_drop]
    rw [show min (p - z) (a.length - z) = p - z by omega, show min d (a.length - p) = d by omega, show (z : Int) + ((p - z : Nat) : Int) = (p : Int) by omega, show (p : Int) + (d : Int) = ((p + d : Nat) : Int) by omega, ih, emitZ, if_neg]
    · obtain ⟨p', d', i⟩ := e
      simp only at ep ed
      subst ep ed
      rfl
    · rintro ⟨h1, h2⟩
      rcases hne with h | h
      · omega
      · exact h h2
def delta : List Ed → Int
  | [] => 0
  | e :: g => e.ins.length - e.del + delta g
theorem delta_append : ∀ g t : List Ed, delta (g ++ t) = delta g + delta t
  | [], t => by simp [delta]
  | e :: g, t => by rw [List.cons_append, delta, delta, delta_append g t]; omega
theorem turn_append (a : Ls) : ∀ (g t : List Ed) (more : Int), turn a more (g ++ t) = turn a more g ++ turn a (more + delta g) t
  | [], t, more => by simp [turn, delta]
  | e :: g, t, more => by
    rw [List.cons_append, turn, turn, turn_append a g t, delta, List.cons_append]
    congr 3
    omega
theorem pts_turn (a : Ls) (r : Nat) : ∀ (g : List Ed) (z : Nat) (last more : Int), right a.length last g = true → -1 ≤ last → (z : Int) ≤ last + 1 ∨ (∀ e t, g = e :: t → (z : Int) ≤ e.pos) → edP (z + more) ((pts a r z g).map swp) = turn a more g
  | [], z, last, more, _, _, _ => by
    rw [pts]
    split
    · rfl
    · rw [List.map_cons, edP, swp, emitZ, if_pos ⟨rfl, rfl⟩]; rfl
  | e :: g, z, last, more, hr, hl, hzl => by
    obtain ⟨p, d, ep, ed, hpd, hlp, hne, hr'⟩ := right_head hr hl
    have ih := pts_turn a r g (p + d) _ (more + e.ins.length - d) hr' (by omega) (.inl (by omega))
    have hzp : z ≤ p := by
      rcases hzl with h | h
      · omega
      · have := h e g rfl; omega
    rw [pts, turn, ep, ed]
    simp only [Int.toNat_natCast]
    rw [List.map_cons, edP, swp]
    have hld : ((a.drop p).take d).length = d := by rw [List.length_take, List.length_drop]; omega
    have hls : ((a.drop z).take (p - z)).length = p - z := by rw [List.length_take, List.length_drop]; omega
    simp only [hls]
    rw [show (z : Int) + more + ((p - z : Nat) : Int) = p + more by omega, show (p : Int) + more + (e.ins.length : Int) = ((p + d : Nat) : Int) + (more + e.ins.length - d) by omega, ih, emitZ, if_neg]
    · rfl
    · rintro ⟨h1, h2⟩
      rcases hne with h | h
      · rw [h2] at hld; exact h hld.symm
      · exact h (List.eq_nil_of_length_eq_zero (by omega))
/-- how many lines a hunk has of the old ones -/
theorem pts_old (a : Ls) (r : Nat) : ∀ (g : List Ed) (z : Nat) (last : Int), right a.length last g = true → -1 ≤ last → (z : Int) ≤ last + 1 ∨ (∀ e t, g = e :: t → (z : Int) ≤ e.pos) → z ≤ a.length →
    (many 45 (lay (pts a r z g)) : Int) = min (lastF z g + r) a.length - z
  | [], z, last, _, _, _, hz => by
    rw [pts, lastF]
    split
    · rename_i h
      have := congrArg List.length h
      rw [List.length_take, List.length_drop, List.length_nil] at this
      simp only [lay, many]
      omega
    · simp only [lay, List.append_nil, many_old, List.length_take, List.length_drop, List.length_nil]
      omega
  | e :: g, z, last, hr, hl, hzl, hz => by
    obtain ⟨p, d, ep, ed, hpd, hlp, hne, hr'⟩ := right_head hr hl
    have ih := pts_old a r g (p + d) _ hr' (by omega) (.inl (by omega)) hpd
    have hzp : z ≤ p := by
      rcases hzl with h | h
      · omega
      · have := h e g rfl; omega
    have hf : fin e = ((p + d : Nat) : Int) := by unfold fin; rw [ep, ed]; omega
    rw [pts, lastF, hf, ep, ed]
    simp only [Int.toNat_natCast]
    rw [lay, many_append, many_old]
    simp only [List.length_take, List.length_drop]
    omega
theorem pts_delta (a : Ls) (r : Nat) : ∀ (g : List Ed) (z : Nat) (last : Int), right a.length last g = true → -1 ≤ last →
    (many 43 (lay (pts a r z g)) : Int) - many 45 (lay (pts a r z g)) = delta g
  | [], z, last, _, _ => by
    rw [pts, delta]
    split
    · simp [lay, many]
    · simp only [lay, List.append_nil, many_old, many_new, List.length_nil]; omega
  | e :: g, z, last, hr, hl => by
    obtain ⟨p, d, ep, ed, hpd, hlp, hne, hr'⟩ := right_head hr hl
    have ih := pts_delta a r g (p + d) _ hr' (by omega)
    rw [pts, delta, ep, ed]
    simp only [Int.toNat_natCast]
    rw [lay, many_append, many_append, many_old, many_new]
    simp only [List.length_take, List.length_drop]
    omega
end Go.Proofs.Ytfmmececocilhaa.Hu
