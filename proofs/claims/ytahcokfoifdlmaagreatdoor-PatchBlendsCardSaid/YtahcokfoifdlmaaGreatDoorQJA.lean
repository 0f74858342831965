/-
  What became of lines on two sides: on lists alone.
-/
import Derived.Test.YtahcokfoifdlmaaGreatDoorQEB
namespace Go.Proofs.YtahcokfoifdlmaaGreatDoor.Al
open Go.Proofs.YtahcokfoifdlmaaGreatDoor.Df

/-- the edits of two sides, by their places -/
def mrg : List Ed → List Ed → List (Bool × Ed)
  | [], ys => ys.map fun e => (true, e)
  | e :: xs, [] => (false, e) :: mrg xs []
  | e :: xs, f :: ys => if e.pos ≤ f.pos then (false, e) :: mrg xs (f :: ys) else (true, f) :: mrg (e :: xs) ys
termination_by xs ys => xs.length + ys.length
/-- which side is next -/
def sd : List Ed → List Ed → Bool
  | [], _ => true
  | _ :: _, [] => false
  | e :: _, f :: _ => decide (f.pos < e.pos)
theorem mrg_nil : mrg [] [] = [] := by rw [mrg]; rfl
theorem mrg_cons (xs ys : List Ed) (h : xs ≠ [] ∨ ys ≠ []) :
    (sd xs ys = false ∧ ∃ e r, xs = e :: r ∧ mrg xs ys = (false, e) :: mrg r ys) ∨ (sd xs ys = true ∧ ∃ e r, ys = e :: r ∧ mrg xs ys = (true, e) :: mrg xs r) := by
  cases xs with
  | nil =>
    cases ys with
    | nil => simp at h
    | cons f ys => exact .inr ⟨rfl, f, ys, rfl, by rw [mrg, mrg]; rfl⟩
  | cons e xs =>
    cases ys with
    | nil => exact .inl ⟨rfl, e, xs, rfl, by rw [mrg]⟩
    | cons f ys =>
      by_cases hp : e.pos ≤ f.pos
      · exact .inl ⟨by simp [sd]; omega, e, xs, rfl, by rw [mrg, if_pos hp]⟩
      · exact .inr ⟨by simp [sd]; omega, f, ys, rfl, by rw [mrg, if_neg hp]⟩
/-- one side's -/
def ofS (s : Bool) (l : List (Bool × Ed)) : List Ed := (l.filter fun p => p.1 == s).map (·.2)
theorem ofS_nil (s : Bool) : ofS s [] = [] := rfl
theorem ofS_same (s : Bool) (e : Ed) (l : List (Bool × Ed)) : ofS s ((s, e) :: l) = e :: ofS s l := by simp [ofS]
theorem ofS_other (s t : Bool) (h : t ≠ s) (e : Ed) (l : List (Bool × Ed)) : ofS s ((t, e) :: l) = ofS s l := by simp [ofS, h]
theorem ofS_append (s : Bool) (l r : List (Bool × Ed)) : ofS s (l ++ r) = ofS s l ++ ofS s r := by simp [ofS]
theorem ofS_all : ∀ ys : List Ed, ofS true (ys.map fun e => (true, e)) = ys
  | [] => rfl
  | f :: ys => by rw [List.map_cons, ofS_same, ofS_all ys]
theorem ofS_mrg : ∀ (n : Nat) (xs ys : List Ed), xs.length + ys.length ≤ n → ofS false (mrg xs ys) = xs ∧ ofS true (mrg xs ys) = ys
  | _, [], ys, _ => by
    rw [mrg]
    exact ⟨by simp [ofS], ofS_all ys⟩
  | 0, e :: xs, _, h => by simp at h
  | n + 1, e :: xs, [], h => by
    obtain ⟨h1, h2⟩ := ofS_mrg n xs [] (by simp at h ⊢; omega)
    rw [mrg, ofS_same, ofS_other _ _ (by decide), h1, h2]
    exact ⟨rfl, rfl⟩
  | n + 1, e :: xs, f :: ys, h => by
    simp at h
    rw [mrg]
    split
    · obtain ⟨h1, h2⟩ := ofS_mrg n xs (f :: ys) (by simp; omega)
      rw [ofS_same, ofS_other _ _ (by decide), h1, h2]
      exact ⟨rfl, rfl⟩
    · obtain ⟨h1, h2⟩ := ofS_mrg n (e :: xs) ys (by simp; omega)
      rw [ofS_same, ofS_other _ _ (by decide), h1, h2]
      exact ⟨rfl, rfl⟩

/-- a cluster: its lines of o; of either side how many edits it has, and how many lines more come than go -/
structure Cl where
  fr : Int
  to : Int
  n0 : Int
  m0 : Int
  n1 : Int
  m1 : Int
def Cl.zero (p : Int) : Cl := ⟨p, 0, 0, 0, 0, 0⟩
def Cl.take (c : Cl) (s : Bool) (e : Ed) : Cl :=
  if s then ⟨c.fr, max c.to (e.pos + e.del), c.n0, c.m0, c.n1 + 1, c.m1 + (e.ins.length - e.del)⟩
  else ⟨c.fr, max c.to (e.pos + e.del), c.n0 + 1, c.m0 + (e.ins.length - e.del), c.n1, c.m1⟩
/-- a cluster takes what meets it -/
def grow : Cl → List (Bool × Ed) → Cl × List (Bool × Ed)
  | c, [] => (c, [])
  | c, (s, e) :: r => if c.to < e.pos then (c, (s, e) :: r) else grow (c.take s e) r
theorem grow_len : ∀ (c : Cl) (l : List (Bool × Ed)), (grow c l).2.length ≤ l.length
  | c, [] => Nat.le_refl _
  | c, (s, e) :: r => by
    rw [grow]
    split
    · exact Nat.le_refl _
    · have := grow_len (c.take s e) r; simp; omega
/-- a region -/
structure Rg where
  kind : Int
  o0 : Int
  on : Int
  a0 : Int
  an : Int
  b0 : Int
  bn : Int
deriving DecidableEq
def cut (l : Ls) (x n : Int) : Ls := (l.drop x.toNat).take n.toNat
def kindOf (c : Cl) (p q : Ls) : Int := if c.n0 = 0 ∧ c.n1 = 0 then 0 else if c.n1 = 0 then 1 else if c.n0 = 0 then 2 else if p = q then 3 else 4
/-- how far all three are gone through; the regions so far -/
structure St where
  x : Int
  y : Int
  z : Int
  l : List Rg
def St.add (a b : Ls) (s : St) (c : Cl) : St :=
  ⟨s.x + (c.to - c.fr), s.y + (c.to - c.fr + c.m0), s.z + (c.to - c.fr + c.m1),
    s.l ++ [⟨kindOf c (cut a s.y (c.to - c.fr + c.m0)) (cut b s.z (c.to - c.fr + c.m1)), s.x, c.to - c.fr, s.y, c.to - c.fr + c.m0, s.z, c.to - c.fr + c.m1⟩]⟩
def St.keep (a b : Ls) (s : St) (t : Int) : St := if s.x < t then s.add a b ⟨s.x, t, 0, 0, 0, 0⟩ else s
def loop (a b : Ls) : St → List (Bool × Ed) → St
  | s, [] => s
  | s, (d, e) :: r => loop a b ((s.keep a b (grow ((Cl.zero e.pos).take d e) r).1.fr).add a b (grow ((Cl.zero e.pos).take d e) r).1) (grow ((Cl.zero e.pos).take d e) r).2
termination_by _ l => l.length
decreasing_by have := grow_len ((Cl.zero e.pos).take d e) r; simp; omega
theorem loop_nil (a b : Ls) (s : St) : loop a b s [] = s := by rw [loop]
theorem loop_cons (a b : Ls) (s : St) (d : Bool) (e : Ed) (r : List (Bool × Ed)) : loop a b s ((d, e) :: r) = loop a b ((s.keep a b (grow ((Cl.zero e.pos).take d e) r).1.fr).add a b (grow ((Cl.zero e.pos).take d e) r).1) (grow ((Cl.zero e.pos).take d e) r).2 := by rw [loop]
def regs (o a b : Ls) : List Rg := ((loop a b ⟨0, 0, 0, []⟩ (mrg (D o a) (D o b))).keep a b o.length).l

/-! What is taken, and what it makes of o's lines. -/
/-- the edits that were taken -/
def tak : Cl → List (Bool × Ed) → List (Bool × Ed)
  | _, [] => []
  | c, (s, e) :: r => if c.to < e.pos then [] else (s, e) :: tak (c.take s e) r
theorem tak_grow : ∀ (c : Cl) (l : List (Bool × Ed)), tak c l ++ (grow c l).2 = l
  | c, [] => rfl
  | c, (s, e) :: r => by
    rw [tak, grow]
    split
    · rfl
    · rw [List.cons_append, tak_grow]
/-- how many lines more come than go -/
def more : List Ed → Int
  | [] => 0
  | e :: l => (e.ins.length - e.del) + more l
def ends : Int → List (Bool × Ed) → Int
  | t, [] => t
  | t, (_, e) :: r => ends (max t (e.pos + e.del)) r
theorem ends_ge : ∀ (t : Int) (l : List (Bool × Ed)), t ≤ ends t l
  | _, [] => Int.le_refl _
  | t, (_, e) :: r => by have := ends_ge (max t (e.pos + e.del)) r; rw [ends]; omega
theorem ends_mem : ∀ (t : Int) (l : List (Bool × Ed)) (p : Bool × Ed), p ∈ l → p.2.pos + p.2.del ≤ ends t l
  | _, [], p, h => by cases h
  | t, (s, e) :: r, p, h => by
    rw [ends]
    rcases List.mem_cons.1 h with rfl | h
    · have := ends_ge (max t (e.pos + e.del)) r; simp; omega
    · exact ends_mem _ r p h
theorem ends_le : ∀ (t u : Int) (l : List (Bool × Ed)), t ≤ u → (∀ p ∈ l, p.2.pos + p.2.del ≤ u) → ends t l ≤ u
  | t, u, [], h, _ => h
  | t, u, (s, e) :: r, h, hl => by
    rw [ends]
    exact ends_le _ u r (by have := hl (s, e) (by simp); simp at this; omega) fun p hp => hl p (by simp [hp])
theorem grow_is : ∀ (c : Cl) (l : List (Bool × Ed)), (grow c l).1 = ⟨c.fr, ends c.to (tak c l), c.n0 + (ofS false (tak c l)).length, c.m0 + more (ofS false (tak c l)), c.n1 + (ofS true (tak c l)).length, c.m1 + more (ofS true (tak c l))⟩
  | c, [] => by simp [grow, tak, ends, ofS, more]
  | c, (s, e) :: r => by
    rw [grow, tak]
    split
    · simp [ends, ofS, more]
    · rw [grow_is, ends]
      cases s
      · rw [ofS_same, ofS_other _ _ (by decide)]
        simp only [Cl.take, more, List.length_cons]
        simp
        exact ⟨by omega, by omega⟩
      · rw [ofS_same, ofS_other _ _ (by decide)]
        simp only [Cl.take, more, List.length_cons]
        simp
        exact ⟨by omega, by omega⟩
end Go.Proofs.YtahcokfoifdlmaaGreatDoor.Al
namespace Go.Proofs.YtahcokfoifdlmaaGreatDoor.Al
open Go.Proofs.YtahcokfoifdlmaaGreatDoor.Df

def holdsK (k : Int) (p q r : Ls) : Bool :=
  if k = 0 then decide (p = q) && decide (p = r) else if k = 1 then decide (p = r) else if k = 2 then decide (p = q) else if k = 3 then decide (q = r) else decide (k = 4)
/-- a span goes on where the one ahead ended, with lines that are there -/
def fol (n x f m : Int) : Bool := decide (f = x) && decide (0 ≤ m) && decide (m ≤ n - x)
theorem fol_yes {n x f m : Int} : fol n x f m = true ↔ f = x ∧ 0 ≤ m ∧ m ≤ n - x := by simp [fol, and_assoc]
def chk (o a b : Ls) (x y z : Int) (r : Rg) : Bool :=
  fol o.length x r.o0 r.on && fol a.length y r.a0 r.an && fol b.length z r.b0 r.bn && holdsK r.kind (cut o x r.on) (cut a y r.an) (cut b z r.bn)
/-- are regions right, from places on? -/
def okF (o a b : Ls) : Int → Int → Int → List Rg → Bool
  | x, y, z, [] => decide (x = o.length) && decide (y = a.length) && decide (z = b.length)
  | x, y, z, r :: l => chk o a b x y z r && okF o a b (x + r.on) (y + r.an) (z + r.bn) l
/-- regions that are right as far as they go -/
def Far (o a b : Ls) : Int → Int → Int → List Rg → Int → Int → Int → Prop
  | x, y, z, [], x', y', z' => x = x' ∧ y = y' ∧ z = z'
  | x, y, z, r :: l, x', y', z' => chk o a b x y z r = true ∧ Far o a b (x + r.on) (y + r.an) (z + r.bn) l x' y' z'
theorem Far.snoc {o a b : Ls} : ∀ {l : List Rg} {x y z x' y' z' : Int} {r : Rg}, Far o a b x y z l x' y' z' → chk o a b x' y' z' r = true → Far o a b x y z (l ++ [r]) (x' + r.on) (y' + r.an) (z' + r.bn)
  | [], _, _, _, _, _, _, _, h, hc => by
    obtain ⟨rfl, rfl, rfl⟩ := h
    exact ⟨hc, rfl, rfl, rfl⟩
  | _ :: _, _, _, _, _, _, _, _, h, hc => ⟨h.1, Far.snoc h.2 hc⟩
theorem Far.ok {o a b : Ls} : ∀ {l : List Rg} {x y z x' y' z' : Int}, Far o a b x y z l x' y' z' → x' = o.length → y' = a.length → z' = b.length → okF o a b x y z l = true
  | [], _, _, _, _, _, _, h, h1, h2, h3 => by
    obtain ⟨rfl, rfl, rfl⟩ := h
    simp [okF, h1, h2, h3]
  | _ :: _, _, _, _, _, _, _, h, h1, h2, h3 => by
    rw [okF, h.1, Far.ok h.2 h1 h2 h3]
    rfl
/-- what some edits make of o's lines from a place on, up to another one -/
def seg (o : Ls) : Nat → List Ed → Nat → Ls
  | at_, [], t => (o.drop at_).take (t - at_)
  | at_, e :: l, t => (o.drop at_).take (e.pos.toNat - at_) ++ e.ins ++ seg o (e.pos.toNat + e.del.toNat) l t
theorem play_keep (o : Ls) (at_ t : Nat) (l : List Ed) (h : at_ ≤ t) (ht : t ≤ o.length) (hl : ∀ e ∈ l, (t : Int) ≤ e.pos) : play o at_ l = (o.drop at_).take (t - at_) ++ play o t l := by
  cases l with
  | nil => rw [play, play]; exact drop_split o at_ t h
  | cons e l =>
    have hp := hl e (by simp)
    rw [play, play, ← List.append_assoc, ← List.append_assoc]
    congr 2
    have := drop_split (α := List UInt8) o at_ t h
    conv => lhs; rw [this]
    rw [List.take_append]
    have hlen : ((o.drop at_).take (t - at_)).length = t - at_ := by rw [List.length_take, List.length_drop]; omega
    rw [hlen, List.take_of_length_le (by rw [hlen]; omega)]
    congr 2
    omega
theorem play_seg (o : Ls) (t : Nat) (ht : t ≤ o.length) : ∀ (T R : List Ed) (at_ : Nat) (last : Int), -1 ≤ last → (at_ : Int) ≤ last + 1 → at_ ≤ t → right o.length last (T ++ R) = true →
    (∀ e ∈ T, e.pos + e.del ≤ t) → (∀ e ∈ R, (t : Int) ≤ e.pos) →
    play o at_ (T ++ R) = seg o at_ T t ++ play o t R ∧ ((seg o at_ T t).length : Int) = t - at_ + more T
  | [], R, at_, last, _, _, h, _, _, hR => by
    refine ⟨play_keep o at_ t R h ht hR, ?_⟩
    rw [seg, List.length_take, List.length_drop, more]
    omega
  | e :: T, R, at_, last, h1, h2, h, hr, hT, hR => by
    rw [List.cons_append] at hr
    obtain ⟨p, d, ep, ed, hpd, hlp, _, hr'⟩ := right_head hr h1
    have he := hT e (by simp)
    obtain ⟨i1, i2⟩ := play_seg o t ht T R (p + d) ((p + d : Nat) : Int) (by omega) (by omega) (by omega) hr' (fun e he => hT e (by simp [he])) hR
    rw [List.cons_append, play, seg]
    simp only [ep, ed, Int.toNat_natCast]
    rw [i1]
    refine ⟨by simp, ?_⟩
    rw [List.length_append, List.length_append, List.length_take, List.length_drop, more, ed]
    omega
theorem seg_ins (o : Ls) (t : Nat) (e : Ed) (T : List Ed) (at_ : Nat) : e.ins.length ≤ (seg o at_ (e :: T) t).length := by
  rw [seg]; simp; omega
/-! Right edits of two sides, by their places. -/
theorem right_low {n : Nat} : ∀ {last : Int} {l : List Ed}, right n last l = true → -1 ≤ last → ∀ e ∈ l, last < e.pos ∧ 0 ≤ e.del ∧ e.pos + e.del ≤ n ∧ (e.del ≠ 0 ∨ e.ins ≠ [])
  | _, [], _, _, e, he => by cases he
  | last, f :: l, h, hl, e, he => by
    obtain ⟨p, d, ep, ed, hpd, hlp, hd, hr'⟩ := right_head h hl
    rcases List.mem_cons.1 he with rfl | he
    · refine ⟨by omega, by omega, by omega, ?_⟩
      rcases hd with h | h
      · exact .inl (by omega)
      · exact .inr h
    · have := right_low hr' (by omega) e he
      exact ⟨by omega, this.2⟩
theorem right_more {n : Int} {last last' : Int} : ∀ {l : List Ed}, right n last l = true → (∀ e ∈ l, last' < e.pos) → right n last' l = true
  | [], _, _ => rfl
  | e :: l, h, hl => by
    rw [right_cons] at h ⊢
    exact ⟨⟨h.1.1, h.1.2.1, hl e (by simp), h.1.2.2.2⟩, h.2⟩
theorem right_back {n : Nat} : ∀ {last : Int} {T R : List Ed}, right n last (T ++ R) = true → -1 ≤ last → ∃ last', -1 ≤ last' ∧ right n last' R = true
  | last, [], _, h, hl => ⟨last, hl, h⟩
  | _, _ :: T, R, h, hl => by
    rw [List.cons_append] at h
    obtain ⟨p, d, _, _, _, _, _, hr'⟩ := right_head h hl
    exact right_back (T := T) hr' (by omega)
abbrev Srt (l : List (Bool × Ed)) : Prop := l.Pairwise fun p q => p.2.pos ≤ q.2.pos
theorem mem_ofS {s : Bool} {l : List (Bool × Ed)} {e : Ed} : e ∈ ofS s l ↔ (s, e) ∈ l := by
  simp only [ofS, List.mem_map, List.mem_filter]
  constructor
  · rintro ⟨p, ⟨h1, h2⟩, rfl⟩
    have : p.1 = s := by simpa using h2
    rw [← this]
    exact h1
  · intro h; exact ⟨(s, e), ⟨h, by simp⟩, rfl⟩
theorem mem_mrg {xs ys : List Ed} {p : Bool × Ed} (h : p ∈ mrg xs ys) : p.2 ∈ xs ∨ p.2 ∈ ys := by
  obtain ⟨h0, h1⟩ := ofS_mrg _ xs ys (Nat.le_refl _)
  obtain ⟨s, e⟩ := p
  cases s
  · have := mem_ofS.2 h; rw [h0] at this; exact .inl this
  · have := mem_ofS.2 h; rw [h1] at this; exact .inr this
theorem mrg_srt (n : Nat) : ∀ (k : Nat) (xs ys : List Ed) (l0 l1 : Int), xs.length + ys.length ≤ k → -1 ≤ l0 → -1 ≤ l1 → right n l0 xs = true → right n l1 ys = true → Srt (mrg xs ys)
  | k, xs, ys, l0, l1, hk, h0, h1, r0, r1 => by
    by_cases hn : xs = [] ∧ ys = []
    · obtain ⟨rfl, rfl⟩ := hn
      rw [mrg_nil]; exact List.Pairwise.nil
    · have hn' : xs ≠ [] ∨ ys ≠ [] := by
        by_cases hx : xs = []
        · exact .inr fun hy => hn ⟨hx, hy⟩
        · exact .inl hx
      cases k with
      | zero =>
        exfalso
        apply hn
        exact ⟨List.eq_nil_of_length_eq_zero (by omega), List.eq_nil_of_length_eq_zero (by omega)⟩
      | succ k =>
        have hs : ∀ (xs ys : List Ed), xs = xs → sd xs ys = false → ∀ e r, xs = e :: r → ∀ f s, ys = f :: s → e.pos ≤ f.pos := by
          intro xs ys _ h e r hx f s hy
          subst hx hy
          simp [sd] at h; omega
        have ht : ∀ (xs ys : List Ed), xs = xs → sd xs ys = true → ∀ e r, xs = e :: r → ∀ f s, ys = f :: s → f.pos ≤ e.pos := by
          intro xs ys _ h e r hx f s hy
          subst hx hy
          simp [sd] at h; omega
        rcases mrg_cons xs ys hn' with ⟨hd, e, r, hx, hm⟩ | ⟨hd, e, r, hy, hm⟩
        · rw [hm]
          subst hx
          obtain ⟨p, d, ep, ed, hpd, hlp, _, hr'⟩ := right_head r0 h0
          refine List.pairwise_cons.2 ⟨fun q hq => ?_, mrg_srt n k r ys _ l1 (by simp at hk; omega) (by omega) h1 hr' r1⟩
          rcases mem_mrg hq with hq | hq
          · have := right_low hr' (by omega) q.2 hq
            simp only; omega
          · cases ys with
            | nil => cases hq
            | cons f s =>
              have h3 := hs _ _ rfl hd e r rfl f s rfl
              obtain ⟨p', d', ep', ed', hpd', hlp', _, hr''⟩ := right_head r1 h1
              rcases List.mem_cons.1 hq with hq | hq
              · rw [hq]; exact h3
              · have := right_low hr'' (by omega) q.2 hq
                simp only; omega
        · rw [hm]
          subst hy
          obtain ⟨p, d, ep, ed, hpd, hlp, _, hr'⟩ := right_head r1 h1
          refine List.pairwise_cons.2 ⟨fun q hq => ?_, mrg_srt n k xs r l0 _ (by simp at hk; omega) h0 (by omega) r0 hr'⟩
          rcases mem_mrg hq with hq | hq
          · cases xs with
            | nil => cases hq
            | cons f s =>
              have h3 := ht _ _ rfl hd f s rfl e r rfl
              obtain ⟨p', d', ep', ed', hpd', hlp', _, hr''⟩ := right_head r0 h0
              rcases List.mem_cons.1 hq with hq | hq
              · rw [hq]; exact h3
              · have := right_low hr'' (by omega) q.2 hq
                simp only; omega
          · have := right_low hr' (by omega) q.2 hq
            simp only; omega
/-- what a cluster leaves lies behind it -/
theorem grow_rest : ∀ (c : Cl) (l : List (Bool × Ed)), Srt l → ∀ q ∈ (grow c l).2, (grow c l).1.to < q.2.pos
  | c, [], _, q, hq => by cases hq
  | c, (s, e) :: r, h, q, hq => by
    rw [grow] at hq ⊢
    by_cases hc : c.to < e.pos
    · rw [if_pos hc] at hq ⊢
      rcases List.mem_cons.1 hq with rfl | hq
      · exact hc
      · have := (List.pairwise_cons.1 h).1 q hq
        show c.to < q.2.pos
        simp only at this; omega
    · rw [if_neg hc] at hq ⊢
      exact grow_rest _ r (List.pairwise_cons.1 h).2 q hq
end Go.Proofs.YtahcokfoifdlmaaGreatDoor.Al
namespace Go.Proofs.YtahcokfoifdlmaaGreatDoor.Al
open Go.Proofs.YtahcokfoifdlmaaGreatDoor.Df

/-- no two stable ones are neighbours, and no two others -/
def Alt (l : List Rg) : Prop := ∀ i r r', l[i]? = some r → l[i + 1]? = some r' → ¬ (r.kind = 0 ↔ r'.kind = 0)
theorem Alt.snoc {l : List Rg} {r : Rg} (h : Alt l) (hr : ∀ q, l.getLast? = some q → ¬ (q.kind = 0 ↔ r.kind = 0)) : Alt (l ++ [r]) := by
  intro i p p' h1 h2
  rcases Nat.lt_or_ge (i + 1) l.length with hi | hi
  · rw [List.getElem?_append_left (by omega)] at h1
    rw [List.getElem?_append_left hi] at h2
    exact h i p p' h1 h2
  · have h3 : i + 1 = l.length := by
      have := (List.getElem?_eq_some_iff.1 h2).1
      simp at this; omega
    rw [List.getElem?_append_left (by omega)] at h1
    rw [List.getElem?_append_right hi, h3, Nat.sub_self] at h2
    simp at h2
    subst h2
    refine hr p ?_
    rw [List.getLast?_eq_getElem?, ← h1]
    congr 1
    omega
/-- what holds where a cluster begins -/
structure Inv (o a b : Ls) (s : St) (l : List (Bool × Ed)) : Prop where
  at_ : ∃ X Y Z : Nat, s.x = X ∧ s.y = Y ∧ s.z = Z ∧ X ≤ o.length ∧ Y ≤ a.length ∧ Z ≤ b.length ∧ a.drop Y = play o X (ofS false l) ∧ b.drop Z = play o X (ofS true l)
  last : ∃ last : Int, -1 ≤ last ∧ s.x ≤ last + 1 ∧ right o.length last (ofS false l) = true ∧ right o.length last (ofS true l) = true
  srt : Srt l
  far : Far o a b 0 0 0 s.l s.x s.y s.z
  alt : Alt s.l
  pos : ∀ r ∈ s.l, 1 ≤ r.on + r.an + r.bn
  gap : ∀ q, s.l.getLast? = some q → q.kind ≠ 0 ∧ ∀ p ∈ l, s.x < p.2.pos
theorem cut_is (l S R : Ls) (X : Nat) (n : Int) (h : l.drop X = S ++ R) (hn : (S.length : Int) = n) : cut l X n = S := by
  unfold cut
  rw [Int.toNat_natCast, h, ← hn, Int.toNat_natCast, List.take_left]
/-- one region more -/
theorem add_ok {o a b : Ls} {s : St} {c : Cl} {X Y Z t : Nat} {SA SB RA RB : Ls} (hx : s.x = X) (hy : s.y = Y) (hz : s.z = Z) (_hX : X ≤ o.length) (hY : Y ≤ a.length) (hZ : Z ≤ b.length) (hf : c.fr = X) (ht : c.to = t) (hXt : X ≤ t) (hto : t ≤ o.length)
    (ha : a.drop Y = SA ++ RA) (hb : b.drop Z = SB ++ RB) (hla : (SA.length : Int) = t - X + c.m0) (hlb : (SB.length : Int) = t - X + c.m1)
    (h0 : c.n0 = 0 → SA = (o.drop X).take (t - X)) (h1 : c.n1 = 0 → SB = (o.drop X).take (t - X)) (hfar : Far o a b 0 0 0 s.l s.x s.y s.z) :
    (s.add a b c).x = t ∧ (s.add a b c).y = (Y + SA.length : Nat) ∧ (s.add a b c).z = (Z + SB.length : Nat) ∧ Y + SA.length ≤ a.length ∧ Z + SB.length ≤ b.length ∧ a.drop (Y + SA.length) = RA ∧ b.drop (Z + SB.length) = RB ∧
    Far o a b 0 0 0 (s.add a b c).l (s.add a b c).x (s.add a b c).y (s.add a b c).z := by
  have e1 : c.to - c.fr = (t : Int) - X := by rw [hf, ht]
  have eo : cut o (X : Int) (t - X) = (o.drop X).take (t - X) := by unfold cut; rw [Int.toNat_natCast]; congr 1; omega
  have ca : cut a s.y (c.to - c.fr + c.m0) = SA := by rw [hy]; exact cut_is a SA RA Y _ ha (by rw [hla, e1])
  have cb : cut b s.z (c.to - c.fr + c.m1) = SB := by rw [hz]; exact cut_is b SB RB Z _ hb (by rw [hlb, e1])
  have la : SA.length ≤ a.length - Y := by rw [← List.length_drop, ha, List.length_append]; omega
  have lb : SB.length ≤ b.length - Z := by rw [← List.length_drop, hb, List.length_append]; omega
  have xa : (s.add a b c).x = (t : Int) := by show s.x + (c.to - c.fr) = _; omega
  have ya : (s.add a b c).y = ((Y + SA.length : Nat) : Int) := by show s.y + (c.to - c.fr + c.m0) = _; omega
  have za : (s.add a b c).z = ((Z + SB.length : Nat) : Int) := by show s.z + (c.to - c.fr + c.m1) = _; omega
  refine ⟨xa, ya, za, by omega, by omega, ?_, ?_, ?_⟩
  · rw [← List.drop_drop, ha, List.drop_left]
  · rw [← List.drop_drop, hb, List.drop_left]
  · refine Far.snoc hfar ?_
    unfold chk
    simp only [ca, cb]
    rw [hx, hy, hz, show cut o (X : Int) (c.to - c.fr) = (o.drop X).take (t - X) from by rw [e1, eo]]
    rw [Bool.and_eq_true, Bool.and_eq_true, Bool.and_eq_true, fol_yes, fol_yes, fol_yes]
    refine ⟨⟨⟨⟨rfl, by omega, by omega⟩, rfl, by omega, by omega⟩, rfl, by omega, by omega⟩, ?_⟩
    unfold holdsK kindOf
    by_cases k0 : c.n0 = 0
    · by_cases k1 : c.n1 = 0
      · simp [k0, k1, h0 k0, h1 k1]
      · simp [k0, k1, h0 k0]
    · by_cases k1 : c.n1 = 0
      · simp [k0, k1, h1 k1]
      · by_cases k2 : SA = SB
        · simp [k0, k1, k2]
        · simp [k0, k1, k2]
theorem add_last (a b : Ls) (s : St) (c : Cl) : (s.add a b c).l.getLast? = some ⟨kindOf c (cut a s.y (c.to - c.fr + c.m0)) (cut b s.z (c.to - c.fr + c.m1)), s.x, c.to - c.fr, s.y, c.to - c.fr + c.m0, s.z, c.to - c.fr + c.m1⟩ := by
  simp [St.add]
theorem kind_zero {c : Cl} {p q : Ls} (_h0 : 0 ≤ c.n0) (_h1 : 0 ≤ c.n1) : kindOf c p q = 0 ↔ c.n0 = 0 ∧ c.n1 = 0 := by
  unfold kindOf
  by_cases k0 : c.n0 = 0
  · by_cases k1 : c.n1 = 0 <;> simp [k0, k1]
  · by_cases k1 : c.n1 = 0
    · simp [k0, k1]
    · by_cases k2 : p = q <;> simp [k0, k1, k2]
/-- what stands ahead of a cluster, or behind the last one -/
theorem keep_ok {o a b : Ls} {s : St} {l : List (Bool × Ed)} (h : Inv o a b s l) (t : Nat) (ht : t ≤ o.length) (hl : ∀ p ∈ l, (t : Int) ≤ p.2.pos) (hs : s.x ≤ t) (hg : s.l ≠ [] → l = [] ∨ s.x < t) :
    ∃ Y Z : Nat, (s.keep a b t).x = t ∧ (s.keep a b t).y = Y ∧ (s.keep a b t).z = Z ∧ Y ≤ a.length ∧ Z ≤ b.length ∧ a.drop Y = play o t (ofS false l) ∧ b.drop Z = play o t (ofS true l) ∧
      Far o a b 0 0 0 (s.keep a b t).l (s.keep a b t).x (s.keep a b t).y (s.keep a b t).z ∧ Alt (s.keep a b t).l ∧ (∀ r ∈ (s.keep a b t).l, 1 ≤ r.on + r.an + r.bn) ∧
      (l ≠ [] → ∀ q, (s.keep a b t).l.getLast? = some q → q.kind = 0) := by
  obtain ⟨X, Y, Z, hx, hy, hz, hX, hY, hZ, ha, hb⟩ := h.at_
  have hXt : X ≤ t := by omega
  have pa := play_keep o X t (ofS false l) hXt ht fun e he => hl _ (mem_ofS.1 he)
  have pb := play_keep o X t (ofS true l) hXt ht fun e he => hl _ (mem_ofS.1 he)
  have ls : ((o.drop X).take (t - X)).length = t - X := by rw [List.length_take, List.length_drop]; omega
  unfold St.keep
  by_cases hlt : s.x < (t : Int)
  · rw [if_pos hlt]
    obtain ⟨a1, a2, a3, a4, a5, a6, a7, a8⟩ := add_ok (o := o) (c := ⟨s.x, t, 0, 0, 0, 0⟩) hx hy hz hX hY hZ hx rfl hXt ht (ha.trans pa) (hb.trans pb) (by rw [ls]; simp; omega) (by rw [ls]; simp; omega) (fun _ => rfl) (fun _ => rfl) h.far
    refine ⟨_, _, a1, a2, a3, a4, a5, a6, a7, a8, ?_, ?_, ?_⟩
    · refine h.alt.snoc fun q hq => ?_
      have := (h.gap q hq).1
      rw [kind_zero (by simp) (by simp)]
      simp [this]
    · intro r hr
      rcases List.mem_append.1 hr with hr | hr
      · exact h.pos r hr
      · simp at hr; subst hr; simp; omega
    · intro _ q hq
      rw [add_last] at hq
      cases hq
      rfl
  · rw [if_neg hlt]
    have e : X = t := by omega
    subst e
    refine ⟨Y, Z, hx, hy, hz, hY, hZ, ha, hb, h.far, h.alt, h.pos, fun hn q hq => ?_⟩
    rcases hg (fun e => by rw [e] at hq; cases hq) with h' | h'
    · exact absurd h' hn
    · exact absurd h' hlt
theorem take_first (d : Bool) (e : Ed) (h : 0 ≤ e.pos) (h' : 0 ≤ e.del) : (Cl.zero e.pos).take d e = ⟨e.pos, e.pos + e.del, if d then 0 else 1, if d then 0 else e.ins.length - e.del, if d then 1 else 0, if d then e.ins.length - e.del else 0⟩ := by
  cases d <;> simp [Cl.zero, Cl.take] <;> omega
/-- a cluster, with what stands ahead of it -/
theorem step_ok {o a b : Ls} {s : St} {d : Bool} {e : Ed} {r : List (Bool × Ed)} (h : Inv o a b s ((d, e) :: r)) :
    Inv o a b ((s.keep a b (grow ((Cl.zero e.pos).take d e) r).1.fr).add a b (grow ((Cl.zero e.pos).take d e) r).1) (grow ((Cl.zero e.pos).take d e) r).2 := by
  obtain ⟨last, hl1, hl2, hr0, hr1⟩ := h.last
  have hlow : ∀ p ∈ (d, e) :: r, last < p.2.pos ∧ 0 ≤ p.2.del ∧ p.2.pos + p.2.del ≤ o.length ∧ (p.2.del ≠ 0 ∨ p.2.ins ≠ []) := by
    rintro ⟨q, f⟩ hp
    cases q
    · exact right_low hr0 hl1 f (mem_ofS.2 hp)
    · exact right_low hr1 hl1 f (mem_ofS.2 hp)
  obtain ⟨e1, e2, e3, e4⟩ := hlow (d, e) (by simp)
  simp only at e1 e2 e3 e4
  obtain ⟨srt1, srt2⟩ := List.pairwise_cons.1 h.srt
  obtain ⟨c0, hc0⟩ : ∃ c0, c0 = (Cl.zero e.pos).take d e := ⟨_, rfl⟩
  have tf := take_first d e (by omega) e2
  rw [← hc0] at tf ⊢
  have htg := tak_grow c0 r
  have hgi := grow_is c0 r
  have hrest := grow_rest c0 r srt2
  obtain ⟨T, hT⟩ : ∃ T, T = tak c0 r := ⟨_, rfl⟩
  obtain ⟨R, hR⟩ : ∃ R, R = (grow c0 r).2 := ⟨_, rfl⟩
  rw [← hT] at htg hgi
  rw [← hR] at htg hrest ⊢
  obtain ⟨c, hc⟩ : ∃ c, c = (grow c0 r).1 := ⟨_, rfl⟩
  rw [← hc] at hgi hrest ⊢
  have htm : ∀ p ∈ T, p ∈ r := fun p hp => by rw [← htg]; exact List.mem_append_left _ hp
  have hte := ends_mem c0.to T
  have htl := ends_le c0.to o.length T (by rw [tf]; exact e3) fun p hp => (hlow p (by simp [htm p hp])).2.2.1
  have htg0 := ends_ge c0.to T
  have cfr : c.fr = e.pos := by rw [hgi, tf]
  have cto : c.to = ends c0.to T := by rw [hgi]
  have hto0 : c0.to = e.pos + e.del := by rw [tf]
  rw [← cto, hto0] at htg0
  obtain ⟨t, ht⟩ := Int.eq_ofNat_of_zero_le (show 0 ≤ c.to by omega)
  obtain ⟨p, hp⟩ := Int.eq_ofNat_of_zero_le (show 0 ≤ e.pos by omega)
  have hpt : p ≤ t := by omega
  have hto : t ≤ o.length := by rw [← cto] at htl; omega
  have key := keep_ok h p (by omega) (by
      rintro ⟨q, f⟩ hq
      rcases List.mem_cons.1 hq with h' | h'
      · cases h'; simp only; omega
      · have := srt1 _ h'; simp only at this ⊢; omega) (by omega) (fun hne => .inr (by
        obtain ⟨q, hq⟩ : ∃ q, s.l.getLast? = some q := by
          cases hg : s.l.getLast? with
          | none => exact absurd (List.getLast?_eq_none_iff.1 hg) hne
          | some q => exact ⟨q, rfl⟩
        have := (h.gap q hq).2 (d, e) (by simp)
        simp only at this; omega))
  rw [cfr, hp]
  obtain ⟨Y, Z, k1, k2, k3, k4, k5, k6, k7, k8, k9, k10, k11⟩ := key
  obtain ⟨s', hs'⟩ : ∃ s', s' = s.keep a b (p : Int) := ⟨_, rfl⟩
  rw [← hs'] at k1 k2 k3 k8 k9 k10 k11 ⊢
  have hofs : ∀ q, ofS q ((d, e) :: r) = ofS q ((d, e) :: T) ++ ofS q R := fun q => by rw [← ofS_append, List.cons_append, htg]
  have hTend : ∀ q, ∀ f ∈ ofS q ((d, e) :: T), f.pos + f.del ≤ t := by
    intro q f hf
    rcases List.mem_cons.1 (mem_ofS.1 hf) with h' | h'
    · cases h'; omega
    · have := hte _ h'; rw [← cto] at this; simp only at this; omega
  have hRpos : ∀ q, ∀ f ∈ ofS q R, (t : Int) < f.pos := fun q f hf => by have := hrest _ (mem_ofS.1 hf); simp only at this; omega
  have hpp : ∀ q, ∀ f ∈ ofS q ((d, e) :: r), (p : Int) - 1 < f.pos := by
    intro q f hf
    rcases List.mem_cons.1 (mem_ofS.1 hf) with h' | h'
    · cases h'; omega
    · have := srt1 _ h'; simp only at this; omega
  have s0 := play_seg o t hto (ofS false ((d, e) :: T)) (ofS false R) p (p - 1) (by omega) (by omega) hpt (by rw [← hofs]; exact right_more hr0 (hpp _)) (hTend false) fun f hf => by have := hRpos _ f hf; omega
  have s1 := play_seg o t hto (ofS true ((d, e) :: T)) (ofS true R) p (p - 1) (by omega) (by omega) hpt (by rw [← hofs]; exact right_more hr1 (hpp _)) (hTend true) fun f hf => by have := hRpos _ f hf; omega
  rw [hofs false, s0.1] at k6
  rw [hofs true, s1.1] at k7
  have cn0 : c.n0 = ((ofS false ((d, e) :: T)).length : Int) := by
    rw [hgi, tf]
    cases d
    · rw [ofS_same]; simp; omega
    · rw [ofS_other _ _ (by decide)]; simp
  have cn1 : c.n1 = ((ofS true ((d, e) :: T)).length : Int) := by
    rw [hgi, tf]
    cases d
    · rw [ofS_other _ _ (by decide)]; simp
    · rw [ofS_same]; simp; omega
  have cm0 : c.m0 = more (ofS false ((d, e) :: T)) := by
    rw [hgi, tf]
    cases d
    · rw [ofS_same, more]; simp
    · rw [ofS_other _ _ (by decide)]; simp
  have cm1 : c.m1 = more (ofS true ((d, e) :: T)) := by
    rw [hgi, tf]
    cases d
    · rw [ofS_other _ _ (by decide)]; simp
    · rw [ofS_same, more]; simp
  have hz : ∀ q, ((ofS q ((d, e) :: T)).length : Int) = 0 → seg o p (ofS q ((d, e) :: T)) t = (o.drop p).take (t - p) := fun q hq => by
    rw [List.eq_nil_of_length_eq_zero (by omega : (ofS q ((d, e) :: T)).length = 0)]; rfl
  obtain ⟨a1, a2, a3, a4, a5, a6, a7, a8⟩ := add_ok (c := c) k1 k2 k3 (by omega) k4 k5 (cfr.trans hp) ht hpt hto k6 k7 (by rw [s0.2, cm0]) (by rw [s1.2, cm1]) (fun h0 => hz false (by rw [← cn0]; exact h0)) (fun h1 => hz true (by rw [← cn1]; exact h1)) k8
  have hne : ¬ (c.n0 = 0 ∧ c.n1 = 0) := by
    rw [cn0, cn1]
    cases d
    · rw [ofS_same]; simp; omega
    · intro hh; rw [ofS_same] at hh; simp at hh; omega
  have hkind : ∀ u v, kindOf c u v ≠ 0 := fun u v hk => hne ((kind_zero (by rw [cn0]; omega) (by rw [cn1]; omega)).1 hk)
  refine ⟨⟨t, _, _, a1, a2, a3, hto, a4, a5, a6, a7⟩, ⟨t, by omega, by omega, ?_, ?_⟩, ?_, a8, ?_, ?_, ?_⟩
  · obtain ⟨l', _, h'⟩ := right_back (T := ofS false ((d, e) :: T)) (R := ofS false R) (by rw [← hofs]; exact hr0) hl1
    exact right_more h' (hRpos false)
  · obtain ⟨l', _, h'⟩ := right_back (T := ofS true ((d, e) :: T)) (R := ofS true R) (by rw [← hofs]; exact hr1) hl1
    exact right_more h' (hRpos true)
  · have : Srt (T ++ R) := by rw [htg]; exact srt2
    exact (List.pairwise_append.1 this).2.1
  · refine k9.snoc fun q hq => ?_
    have h0 := k11 (by simp) q hq
    simp [h0, hkind]
  · intro q hq
    rcases List.mem_append.1 hq with hq | hq
    · exact k10 q hq
    · simp at hq
      subst hq
      simp only
      have z0 : 0 ≤ ((seg o p (ofS false ((d, e) :: T)) t).length : Int) := by omega
      have z1 : 0 ≤ ((seg o p (ofS true ((d, e) :: T)) t).length : Int) := by omega
      have i : (e.ins.length : Int) ≤ (seg o p (ofS false ((d, e) :: T)) t).length ∨ (e.ins.length : Int) ≤ (seg o p (ofS true ((d, e) :: T)) t).length := by
        cases d
        · left; rw [ofS_same]; have := seg_ins o t e (ofS false T) p; omega
        · right; rw [ofS_same]; have := seg_ins o t e (ofS true T) p; omega
      rw [s0.2] at z0 i
      rw [s1.2] at z1 i
      rw [cm0, cm1, ht, cfr, hp]
      have hde : (e.pos + e.del : Int) ≤ t := by omega
      rcases e4 with h' | h'
      · omega
      · have : e.ins.length ≠ 0 := fun h0 => h' (List.eq_nil_of_length_eq_zero h0)
        omega
  · intro q hq
    rw [add_last] at hq
    cases hq
    exact ⟨hkind _ _, fun p hp => by rw [a1]; have := hrest p hp; omega⟩
theorem loop_inv {o a b : Ls} : ∀ (n : Nat) (s : St) (l : List (Bool × Ed)), l.length ≤ n → Inv o a b s l → Inv o a b (loop a b s l) []
  | _, s, [], _, h => by rw [loop_nil]; exact h
  | 0, s, _ :: _, hn, _ => by simp at hn
  | n + 1, s, (d, e) :: r, hn, h => by
    rw [loop_cons]
    refine loop_inv n _ _ ?_ (step_ok h)
    have := grow_len ((Cl.zero e.pos).take d e) r
    simp at hn; omega
theorem start_inv (o a b : Ls) : Inv o a b ⟨0, 0, 0, []⟩ (mrg (D o a) (D o b)) := by
  obtain ⟨h0, h1⟩ := ofS_mrg _ (D o a) (D o b) (Nat.le_refl _)
  refine ⟨⟨0, 0, 0, rfl, rfl, rfl, by simp, by simp, by simp, ?_, ?_⟩, ⟨-1, by simp, by simp, ?_, ?_⟩, ?_, ⟨rfl, rfl, rfl⟩, ?_, ?_, ?_⟩
  · rw [h0, D_play, List.drop_zero]
  · rw [h1, D_play, List.drop_zero]
  · rw [h0]; exact D_right o a
  · rw [h1]; exact D_right o b
  · exact mrg_srt o.length _ _ _ (-1) (-1) (Nat.le_refl _) (by simp) (by simp) (D_right o a) (D_right o b)
  · intro i r r' h; simp at h
  · intro r h; cases h
  · intro q h; cases h
/-- P8.3 on lists -/
theorem regs_ok (o a b : Ls) : okF o a b 0 0 0 (regs o a b) = true ∧ Alt (regs o a b) ∧ ∀ r ∈ regs o a b, 1 ≤ r.on + r.an + r.bn := by
  have h := loop_inv _ _ _ (Nat.le_refl _) (start_inv o a b)
  obtain ⟨X, _, _, hx, _, _, hX, _⟩ := h.at_
  obtain ⟨Y, Z, k1, k2, k3, k4, k5, k6, k7, k8, k9, k10, _⟩ := keep_ok h o.length (Nat.le_refl _) (by simp) (by omega) (fun _ => .inl rfl)
  refine ⟨k8.ok k1 ?_ ?_, k9, k10⟩
  · rw [ofS_nil, play, List.drop_length] at k6
    have := congrArg List.length k6
    simp at this; omega
  · rw [ofS_nil, play, List.drop_length] at k7
    have := congrArg List.length k7
    simp at this; omega
end Go.Proofs.YtahcokfoifdlmaaGreatDoor.Al
namespace Go.Proofs.YtahcokfoifdlmaaGreatDoor.Al
open Go.Proofs.YtahcokfoifdlmaaGreatDoor.Df

section
variable (n : Nat) (mt : Nat → Nat → Bool)
/-- by so many steps, each from one to one that it meets -/
def Rch : Nat → Nat → Nat → Prop
  | 0, j, i => i = j
  | t + 1, j, i => Rch t j i ∨ ∃ k, k < n ∧ mt i k = true ∧ Rch t j k
/-- in each set that is closed by what meets -/
def Con (i j : Nat) : Prop := ∀ S : Nat → Prop, (∀ x y, x < n → y < n → S x → mt x y = true → S y) → S i → S j
/-- marks: behind t turns, i of the next one, and k of i's -/
structure Mk (t i k : Nat) (L : List Int) : Prop where
  len : L.length = n
  dom : ∀ x, x < n → ∃ a : Nat, a < n ∧ L.getD x 0 = a ∧ Con n mt x a
  pr : ∀ x, x < n → ∀ j, j < n → Rch n mt t j x → L.getD x 0 ≤ j
  rows : ∀ x, x < i → x < n → ∀ j, j < n → Rch n mt (t + 1) j x → L.getD x 0 ≤ j
  cells : i < n → ∀ y, y < k → y < n → mt i y = true → ∀ j, j < n → Rch n mt t j y → L.getD i 0 ≤ j
end
section
variable {n : Nat} {mt : Nat → Nat → Bool}
theorem Rch.add {t j i : Nat} (h : Rch n mt t j i) : ∀ u, Rch n mt (t + u) j i
  | 0 => h
  | u + 1 => .inl (Rch.add h u)
theorem Rch.le {t u j i : Nat} (h : Rch n mt t j i) (hu : t ≤ u) : Rch n mt u j i := by
  have := h.add (u - t)
  rwa [show t + (u - t) = u by omega] at this
theorem Rch.trans : ∀ {t u i j k : Nat}, Rch n mt t j i → Rch n mt u k j → Rch n mt (u + t) k i
  | 0, u, i, j, k, h, h' => by
    obtain rfl : i = j := h
    exact h'
  | t + 1, u, i, j, k, h, h' => by
    rcases h with h | ⟨x, hx, hm, h⟩
    · exact .inl (h.trans h')
    · exact .inr ⟨x, hx, hm, h.trans h'⟩
theorem Rch.one {i j : Nat} (hj : j < n) (h : mt i j = true) : Rch n mt 1 j i := .inr ⟨j, hj, h, rfl⟩
theorem Rch.symm (hs : ∀ a b, mt a b = mt b a) : ∀ {t i j : Nat}, i < n → j < n → Rch n mt t j i → Rch n mt t i j
  | 0, _, _, _, _, h => Eq.symm h
  | t + 1, i, j, hi, hj, h => by
    rcases h with h | ⟨k, hk, hm, h⟩
    · exact .inl (h.symm hs hi hj)
    · have := (h.symm hs hk hj).trans (Rch.one hi (by rw [hs]; exact hm))
      rwa [Nat.add_comm 1 t] at this
theorem Con.refl (i : Nat) : Con n mt i i := fun _ _ h => h
theorem Con.step {i k a : Nat} (hi : i < n) (hk : k < n) (h : mt i k = true) (hc : Con n mt k a) : Con n mt i a := fun S hS hi' => hc S hS (hS i k hi hk hi' h)
theorem Mk.start {L : List Int} (hl : L.length = n) (hL : ∀ x, x < n → L.getD x 0 = x) : Mk n mt 0 0 0 L :=
  ⟨hl, fun x hx => ⟨x, hx, hL x hx, Con.refl x⟩, fun x hx j _ h => by
    obtain rfl : x = j := h
    rw [hL x hx]; exact Int.le_refl _, fun x hx => absurd hx (Nat.not_lt_zero _), fun _ y hy => absurd hy (Nat.not_lt_zero _)⟩
theorem Mk.no {t i k : Nat} {L : List Int} (h : Mk n mt t i k L) (hm : mt i k = false) : Mk n mt t i (k + 1) L :=
  ⟨h.len, h.dom, h.pr, h.rows, fun hi y hy hy' hmy j hj hr => by
    rcases Nat.lt_or_ge y k with hlt | hge
    · exact h.cells hi y hlt hy' hmy j hj hr
    · obtain rfl : y = k := by omega
      rw [hm] at hmy; cases hmy⟩
theorem Mk.row {t i : Nat} {L : List Int} (h : Mk n mt t i n L) : Mk n mt t (i + 1) 0 L :=
  ⟨h.len, h.dom, h.pr, fun x hx hx' j hj hr => by
    rcases Nat.lt_or_ge x i with hlt | hge
    · exact h.rows x hlt hx' j hj hr
    · obtain rfl : x = i := by omega
      rcases hr with hr | ⟨k, hk, hm, hr⟩
      · exact h.pr x hx' j hj hr
      · exact h.cells hx' k hk hk hm j hj hr, fun _ y hy => absurd hy (Nat.not_lt_zero _)⟩
/-- marks are one where they should -/
theorem Mk.same {L : List Int} (h : Mk n mt n 0 0 L) (hs : ∀ a b, mt a b = mt b a) (C : Nat → Prop) (hC : ∀ x y, x < n → y < n → C x → mt x y = true → C y)
    (hR : ∀ i j, i < n → j < n → C i → C j → Rch n mt n j i) {i j : Nat} (hi : i < n) (hj : j < n) (hCi : C i) : L.getD j 0 = L.getD i 0 ↔ C j := by
  obtain ⟨a, ha, ea, ca⟩ := h.dom i hi
  obtain ⟨b, hb, eb, cb⟩ := h.dom j hj
  have hCa : C a := ca C hC hCi
  constructor
  · intro e
    obtain rfl : b = a := by omega
    refine Classical.byContradiction fun hn => ?_
    refine cb (fun x => ¬ C x) (fun x y hx hy hnx hm hy' => hnx (hC y x hy hx hy' (by rw [hs]; exact hm))) hn hCa
  · intro hCj
    have hCb : C b := cb C hC hCj
    have h1 := h.pr j hj a ha (hR j a hj ha hCj hCa)
    have h2 := h.pr i hi b hb (hR i b hi hb hCi hCb)
    omega
end
end Go.Proofs.YtahcokfoifdlmaaGreatDoor.Al
namespace Go.Proofs.YtahcokfoifdlmaaGreatDoor.Al
open Go.Proofs.YtahcokfoifdlmaaGreatDoor.Df

/-- do two edits meet? -/
def meetE (e f : Ed) : Bool := decide (e.pos ≤ f.pos + f.del) && decide (f.pos ≤ e.pos + e.del)
theorem meetE_iff {e f : Ed} : meetE e f = true ↔ e.pos ≤ f.pos + f.del ∧ f.pos ≤ e.pos + e.del := by simp [meetE]
/-- each but the first begins where one ahead of it ends, at the latest -/
def Chn (T : List (Bool × Ed)) : Prop := ∀ (b : Nat) p, 0 < b → T[b]? = some p → ∃ (c : Nat) (q : Bool × Ed), c < b ∧ T[c]? = some q ∧ p.2.pos ≤ q.2.pos + q.2.del
theorem Chn.one (p : Bool × Ed) : Chn [p] := by
  intro b q hb h
  have := (List.getElem?_eq_some_iff.1 h).1
  simp at this; omega
/-- a cluster -/
def clu (d : Bool) (e : Ed) (r : List (Bool × Ed)) : List (Bool × Ed) := (d, e) :: tak ((Cl.zero e.pos).take d e) r
section
variable {n : Nat} {E : Nat → Bool × Ed} {T : List (Bool × Ed)}
end
end Go.Proofs.YtahcokfoifdlmaaGreatDoor.Al
