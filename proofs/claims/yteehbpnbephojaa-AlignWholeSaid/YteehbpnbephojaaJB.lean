/-
  The regions' law on lists: they go on, one behind the other, and hold.
-/
import Derived.Test.YteehbpnbephojaaJA
namespace Go.Proofs.Yteehbpnbephojaa.Al
open Go.Proofs.Yteehbpnbephojaa.Df

def holdsK (k : Int) (p q r : Ls) : Bool :=
  if k = 0 then decide (p = q) && decide (p = r) else if k = 1 then decide (p = r) else if k = 2 then decide (p = q) else if k = 3 then decide (q = r) else decide (k = 4)
/-- a span goes on where the one ahead ended, with lines that are there -/
def fol (n x f m : Int) : Bool := decide (f = x) && decide (0 ≤ m) && decide (m ≤ n - x)
theorem fol_yes {n x f m : Int} : fol n x f m = true ↔ f = x ∧ 0 ≤ m ∧ m ≤ n - x := by simp [fol, and_assoc]
def chk (o a b : Ls) (x y z : Int) (r : Rg) : Bool :=
  fol o.length x r.o0 r.on && fol a.length y r.a0 r.an && fol b.length z r.b0 r.bn && holdsK r.kind (cut o x r.on) (cut a y r.an) (cut b z r.bn)
/-- are regions right, from places on? -/
def okF (o a b : Ls) : Int → Int → Int → List Rg → Bool
  | x, y, z, [] => decide (x = o.length) && decide (y = a.length) && decide (z = b.length)
  | x, y, z, r :: l => chk o a b x y z r && okF o a b (x + r.on) (y + r.an) (z + r.bn) l
/-- regions that are right as far as they go -/
def Far (o a b : Ls) : Int → Int → Int → List Rg → Int → Int → Int → Prop
  | x, y, z, [], x', y', z' => x = x' ∧ y = y' ∧ z = z'
  | x, y, z, r :: l, x', y', z' => chk o a b x y z r = true ∧ Far o a b (x + r.on) (y + r.an) (z + r.bn) l x' y' z'
theorem Far.snoc {o a b : Ls} : ∀ {l : List Rg} {x y z x' y' z' : Int} {r : Rg}, Far o a b x y z l x' y' z' → chk o a b x' y' z' r = true → Far o a b x y z (l ++ [r]) (x' + r.on) (y' + r.an) (z' + r.bn)
  | [], _, _, _, _, _, _, _, h, hc => by
    obtain ⟨rfl, rfl, rfl⟩ := h
    exact ⟨hc, rfl, rfl, rfl⟩
  | _ :: _, _, _, _, _, _, _, _, h, hc => ⟨h.1, Far.snoc h.2 hc⟩
theorem Far.ok {o a b : Ls} : ∀ {l : List Rg} {x y z x' y' z' : Int}, Far o a b x y z l x' y' z' → x' = o.length → y' = a.length → z' = b.length → okF o a b x y z l = true
  | [], _, _, _, _, _, _, h, h1, h2, h3 => by
    obtain ⟨rfl, rfl, rfl⟩ := h
    simp [okF, h1, h2, h3]
  | _ :: _, _, _, _, _, _, _, h, h1, h2, h3 => by
    rw [okF, h.1, Far.ok h.2 h1 h2 h3]
    rfl
/-- what some edits make of o's lines from a place on, up to another one -/
def seg (o : Ls) : Nat → List Ed → Nat → Ls
  | at_, [], t => (o.drop at_).take (t - at_)
  | at_, e :: l, t => (o.drop at_).take (e.pos.toNat - at_) ++ e.ins ++ seg o (e.pos.toNat + e.del.toNat) l t
theorem play_keep (o : Ls) (at_ t : Nat) (l : List Ed) (h : at_ ≤ t) (ht : t ≤ o.length) (hl : ∀ e ∈ l, (t : Int) ≤ e.pos) : play o at_ l = (o.drop at_).take (t - at_) ++ play o t l := by
  cases l with
  | nil => rw [play, play]; exact drop_split o at_ t h
  | cons e l =>
    have hp := hl e (by simp)
    rw [play, play, ← List.append_assoc, ← List.append_assoc]
    congr 2
    have := drop_split (α := List UInt8) o at_ t h
    conv => lhs; rw [this]
    rw [List.take_append]
    have hlen : ((o.drop at_).take (t - at_)).length = t - at_ := by rw [List.length_take, List.length_drop]; omega
    rw [hlen, List.take_of_length_le (by rw [hlen]; omega)]
    congr 2
    omega
theorem play_seg (o : Ls) (t : Nat) (ht : t ≤ o.length) : ∀ (T R : List Ed) (at_ : Nat) (last : Int), -1 ≤ last → (at_ : Int) ≤ last + 1 → at_ ≤ t → right o.length last (T ++ R) = true →
    (∀ e ∈ T, e.pos + e.del ≤ t) → (∀ e ∈ R, (t : Int) ≤ e.pos) →
    play o at_ (T ++ R) = seg o at_ T t ++ play o t R ∧ ((seg o at_ T t).length : Int) = t - at_ + more T
  | [], R, at_, last, _, _, h, _, _, hR => by
    refine ⟨play_keep o at_ t R h ht hR, ?_⟩
    rw [seg, List.length_take, List.length_drop, more]
    omega
  | e :: T, R, at_, last, h1, h2, h, hr, hT, hR => by
    rw [List.cons_append] at hr
    obtain ⟨p, d, ep, ed, hpd, hlp, _, hr'⟩ := right_head hr h1
    have he := hT e (by simp)
    obtain ⟨i1, i2⟩ := play_seg o t ht T R (p + d) ((p + d : Nat) : Int) (by omega) (by omega) (by omega) hr' (fun e he => hT e (by simp [he])) hR
    rw [List.cons_append, play, seg]
    simp only [ep, ed, Int.toNat_natCast]
    rw [i1]
    refine ⟨by simp, ?_⟩
    rw [List.length_append, List.length_append, List.length_take, List.length_drop, more, ed]
    omega
theorem seg_ins (o : Ls) (t : Nat) (e : Ed) (T : List Ed) (at_ : Nat) : e.ins.length ≤ (seg o at_ (e :: T) t).length := by
  rw [seg]; simp; omega
/-! Right edits of two sides, by their places. -/
theorem right_low {n : Nat} : ∀ {last : Int} {l : List Ed}, right n last l = true → -1 ≤ last → ∀ e ∈ l, last < e.pos ∧ 0 ≤ e.del ∧ e.pos + e.del ≤ n ∧ (e.del ≠ 0 ∨ e.ins ≠ [])
  | _, [], _, _, e, he => by cases he
  | last, f :: l, h, hl, e, he => by
    obtain ⟨p, d, ep, ed, hpd, hlp, hd, hr'⟩ := right_head h hl
    rcases List.mem_cons.1 he with rfl | he
    · refine ⟨by omega, by omega, by omega, ?_⟩
      rcases hd with h | h
      · exact .inl (by omega)
      · exact .inr h
    · have := right_low hr' (by omega) e he
      exact ⟨by omega, this.2⟩
theorem right_more {n : Int} {last last' : Int} : ∀ {l : List Ed}, right n last l = true → (∀ e ∈ l, last' < e.pos) → right n last' l = true
  | [], _, _ => rfl
  | e :: l, h, hl => by
    rw [right_cons] at h ⊢
    exact ⟨⟨h.1.1, h.1.2.1, hl e (by simp), h.1.2.2.2⟩, h.2⟩
theorem right_back {n : Nat} : ∀ {last : Int} {T R : List Ed}, right n last (T ++ R) = true → -1 ≤ last → ∃ last', -1 ≤ last' ∧ right n last' R = true
  | last, [], _, h, hl => ⟨last, hl, h⟩
  | _, _ :: T, R, h, hl => by
    rw [List.cons_append] at h
    obtain ⟨p, d, _, _, _, _, _, hr'⟩ := right_head h hl
    exact right_back (T := T) hr' (by omega)
abbrev Srt (l : List (Bool × Ed)) : Prop := l.Pairwise fun p q => p.2.pos ≤ q.2.pos
theorem mem_ofS {s : Bool} {l : List (Bool × Ed)} {e : Ed} : e ∈ ofS s l ↔ (s, e) ∈ l := by
  simp only [ofS, List.mem_map, List.mem_filter]
  constructor
  · rintro ⟨p, ⟨h1, h2⟩, rfl⟩
    have : p.1 = s := by simpa using h2
    rw [← this]
    exact h1
  · intro h; exact ⟨(s, e), ⟨h, by simp⟩, rfl⟩
theorem mem_mrg {xs ys : List Ed} {p : Bool × Ed} (h : p ∈ mrg xs ys) : p.2 ∈ xs ∨ p.2 ∈ ys := by
  obtain ⟨h0, h1⟩ := ofS_mrg _ xs ys (Nat.le_refl _)
  obtain ⟨s, e⟩ := p
  cases s
  · have := mem_ofS.2 h; rw [h0] at this; exact .inl this
  · have := mem_ofS.2 h; rw [h1] at this; exact .inr this
theorem mrg_srt (n : Nat) : ∀ (k : Nat) (xs ys : List Ed) (l0 l1 : Int), xs.length + ys.length ≤ k → -1 ≤ l0 → -1 ≤ l1 → right n l0 xs = true → right n l1 ys = true → Srt (mrg xs ys)
  | k, xs, ys, l0, l1, hk, h0, h1, r0, r1 => by
    by_cases hn : xs = [] ∧ ys = []
    · obtain ⟨rfl, rfl⟩ := hn
      rw [mrg_nil]; exact List.Pairwise.nil
    · have hn' : xs ≠ [] ∨ ys ≠ [] := by
        by_cases hx : xs = []
        · exact .inr fun hy => hn ⟨hx, hy⟩
        · exact .inl hx
      cases k with
      | zero =>
        exfalso
        apply hn
        exact ⟨List.eq_nil_of_length_eq_zero (by omega), List.eq_nil_of_length_eq_zero (by omega)⟩
      | succ k =>
        have hs : ∀ (xs ys : List Ed), xs = xs → sd xs ys = false → ∀ e r, xs = e :: r → ∀ f s, ys = f :: s → e.pos ≤ f.pos := by
          intro xs ys _ h e r hx f s hy
          subst hx hy
          simp [sd] at h; omega
        have ht : ∀ (xs ys : List Ed), xs = xs → sd xs ys = true → ∀ e r, xs = e :: r → ∀ f s, ys = f :: s → f.pos ≤ e.pos := by
          intro xs ys _ h e r hx f s hy
          subst hx hy
          simp [sd] at h; omega
        rcases mrg_cons xs ys hn' with ⟨hd, e, r, hx, hm⟩ | ⟨hd, e, r, hy, hm⟩
        · rw [hm]
          subst hx
          obtain ⟨p, d, ep, ed, hpd, hlp, _, hr'⟩ := right_head r0 h0
          refine List.pairwise_cons.2 ⟨fun q hq => ?_, mrg_srt n k r ys _ l1 (by simp at hk; omega) (by omega) h1 hr' r1⟩
          rcases mem_mrg hq with hq | hq
          · have := right_low hr' (by omega) q.2 hq
            simp only; omega
          · cases ys with
            | nil => cases hq
            | cons f s =>
              have h3 := hs _ _ rfl hd e r rfl f s rfl
              obtain ⟨p', d', ep', ed', hpd', hlp', _, hr''⟩ := right_head r1 h1
              rcases List.mem_cons.1 hq with hq | hq
              · rw [hq]; exact h3
              · have := right_low hr'' (by omega) q.2 hq
                simp only; omega
        · rw [hm]
          subst hy
          obtain ⟨p, d, ep, ed, hpd, hlp, _, hr'⟩ := right_head r1 h1
          refine List.pairwise_cons.2 ⟨fun q hq => ?_, mrg_srt n k xs r l0 _ (by simp at hk; omega) h0 (by omega) r0 hr'⟩
          rcases mem_mrg hq with hq | hq
          · cases xs with
            | nil => cases hq
            | cons f s =>
              have h3 := ht _ _ rfl hd f s rfl e r rfl
              obtain ⟨p', d', ep', ed', hpd', hlp', _, hr''⟩ := right_head r0 h0
              rcases List.mem_cons.1 hq with hq | hq
              · rw [hq]; exact h3
              · have := right_low hr'' (by omega) q.2 hq
                simp only; omega
          · have := right_low hr' (by omega) q.2 hq
            simp only; omega
/-- what a cluster leaves lies behind it -/
theorem grow_rest : ∀ (c : Cl) (l : List (Bool × Ed)), Srt l → ∀ q ∈ (grow c l).2, (grow c l).1.to < q.2.pos
  | c, [], _, q, hq => by cases hq
  | c, (s, e) :: r, h, q, hq => by
    rw [grow] at hq ⊢
    by_cases hc : c.to < e.pos
    · rw [if_pos hc] at hq ⊢
      rcases List.mem_cons.1 hq with rfl | hq
      · exact hc
      · have := (List.pairwise_cons.1 h).1 q hq
        show c.to < q.2.pos
        simp only at this; omega
    · rw [if_neg hc] at hq ⊢
      exact grow_rest _ r (List.pairwise_cons.1 h).2 q hq
end Go.Proofs.Yteehbpnbephojaa.Al
