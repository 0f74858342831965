/-
  Longest common subsequences, edits, and the way between two lists: on lists alone.
-/
import Derived.Test.YtlplgkdoiinfhaaDoorProg
import Derived.Test.YtlplgkdoiinfhaaDoorQ3
import Derived.Test.YtlplgkdoiinfhaaDoorQ2
import Derived.IntWalk
import Derived.Lib.Strings
import Derived.Deep.Slices
import Derived.Deep.Fields
import Derived.Deep.Strs
import Derived.Lib.SmallJoins
import Derived.Test.YtlplgkdoiinfhaaDoorQ1
namespace Go.Proofs.YtlplgkdoiinfhaaDoor.Df

/-- how long the longest common subsequence is -/
def lcs {α : Type} [DecidableEq α] : List α → List α → Nat
  | [], _ => 0
  | _ :: _, [] => 0
  | a :: x, b :: y => if a = b then lcs x y + 1 else max (lcs x (b :: y)) (lcs (a :: x) y)
termination_by x y => x.length + y.length

/-- two subsequences of one list have much in common -/
theorem sub_meet {α : Type} : ∀ (b s t : List α), s.Sublist b → t.Sublist b → ∃ u : List α, u.Sublist s ∧ u.Sublist t ∧ s.length + t.length ≤ u.length + b.length
  | [], s, t, h1, h2 => by
    rw [List.sublist_nil.1 h1, List.sublist_nil.1 h2]
    exact ⟨[], List.nil_sublist _, List.nil_sublist _, by simp⟩
  | c :: b, s, t, h1, h2 => by
    rcases List.sublist_cons_iff.1 h1 with k1 | ⟨s', rfl, k1⟩
    · rcases List.sublist_cons_iff.1 h2 with k2 | ⟨t', rfl, k2⟩
      · obtain ⟨u, a1, a2, a3⟩ := sub_meet b s t k1 k2
        exact ⟨u, a1, a2, by simp; omega⟩
      · obtain ⟨u, a1, a2, a3⟩ := sub_meet b s t' k1 k2
        exact ⟨u, a1, a2.cons c, by simp; omega⟩
    · rcases List.sublist_cons_iff.1 h2 with k2 | ⟨t', rfl, k2⟩
      · obtain ⟨u, a1, a2, a3⟩ := sub_meet b s' t k1 k2
        exact ⟨u, a1.cons c, a2, by simp; omega⟩
      · obtain ⟨u, a1, a2, a3⟩ := sub_meet b s' t' k1 k2
        exact ⟨c :: u, a1.cons_cons c, a2.cons_cons c, by simp; omega⟩
section
variable {α : Type} [DecidableEq α]
theorem lcs_nil_left (y : List α) : lcs [] y = 0 := by rw [lcs]
theorem lcs_nil_right (x : List α) : lcs x [] = 0 := by
  cases x with
  | nil => rw [lcs]
  | cons a x => rw [lcs]
theorem lcs_cons (a b : α) (x y : List α) : lcs (a :: x) (b :: y) = if a = b then lcs x y + 1 else max (lcs x (b :: y)) (lcs (a :: x) y) := by rw [lcs]
/-- it is reached -/
theorem lcs_sub : ∀ (n : Nat) (x y : List α), x.length + y.length ≤ n → ∃ s : List α, s.Sublist x ∧ s.Sublist y ∧ s.length = lcs x y
  | _, [], y, _ => ⟨[], List.nil_sublist _, List.nil_sublist _, by rw [lcs_nil_left]; rfl⟩
  | _, x, [], _ => ⟨[], List.nil_sublist _, List.nil_sublist _, by rw [lcs_nil_right]; rfl⟩
  | 0, a :: x, b :: y, h => by simp at h
  | n + 1, a :: x, b :: y, h => by
    simp only [List.length_cons] at h
    rw [lcs_cons]
    by_cases e : a = b
    · obtain ⟨s, h1, h2, h3⟩ := lcs_sub n x y (by omega)
      rw [if_pos e]
      subst e
      exact ⟨a :: s, h1.cons_cons a, h2.cons_cons a, by simp [h3]⟩
    · rw [if_neg e]
      obtain ⟨s, h1, h2, h3⟩ := lcs_sub n x (b :: y) (by simp; omega)
      obtain ⟨t, k1, k2, k3⟩ := lcs_sub n (a :: x) y (by simp; omega)
      rcases Nat.le_total (lcs (a :: x) y) (lcs x (b :: y)) with hl | hl
      · exact ⟨s, h1.cons a, h2, by omega⟩
      · exact ⟨t, k1, k2.cons b, by omega⟩
/-- and never passed -/
theorem lcs_ge : ∀ (n : Nat) (x y s : List α), x.length + y.length ≤ n → s.Sublist x → s.Sublist y → s.length ≤ lcs x y
  | _, [], y, s, _, h1, _ => by rw [List.sublist_nil.1 h1]; exact Nat.zero_le _
  | _, x, [], s, _, _, h2 => by rw [List.sublist_nil.1 h2]; exact Nat.zero_le _
  | 0, a :: x, b :: y, _, h, _, _ => by simp at h
  | n + 1, a :: x, b :: y, s, h, h1, h2 => by
    simp only [List.length_cons] at h
    rw [lcs_cons]
    by_cases e : a = b
    · rw [if_pos e]
      subst e
      cases s with
      | nil => exact Nat.zero_le _
      | cons c s =>
        have k1 : s.Sublist x := by
          rcases List.sublist_cons_iff.1 h1 with h | ⟨r, hr, hs⟩
          · exact (List.sublist_cons_self c s).trans h
          · cases hr; exact hs
        have k2 : s.Sublist y := by
          rcases List.sublist_cons_iff.1 h2 with h | ⟨r, hr, hs⟩
          · exact (List.sublist_cons_self c s).trans h
          · cases hr; exact hs
        have := lcs_ge n x y s (by omega) k1 k2
        simp; omega
    · rw [if_neg e]
      rcases List.sublist_cons_iff.1 h1 with k1 | ⟨r, rfl, k1⟩
      · have := lcs_ge n x (b :: y) s (by simp; omega) k1 h2
        omega
      · rcases List.sublist_cons_iff.1 h2 with k2 | ⟨r', hr, k2⟩
        · have := lcs_ge n (a :: x) y (a :: r) (by simp; omega) h1 k2
          omega
        · injection hr with h3 _
          exact absurd h3 e
theorem lcs_le_iff {x y : List α} {n : Nat} (h : ∀ s : List α, s.Sublist x → s.Sublist y → s.length ≤ n) : lcs x y ≤ n := by
  obtain ⟨s, h1, h2, h3⟩ := lcs_sub _ x y (Nat.le_refl _)
  rw [← h3]; exact h s h1 h2
theorem le_lcs {x y s : List α} (h1 : s.Sublist x) (h2 : s.Sublist y) : s.length ≤ lcs x y := lcs_ge _ x y s (Nat.le_refl _) h1 h2
theorem lcs_comm (x y : List α) : lcs x y = lcs y x :=
  Nat.le_antisymm (lcs_le_iff fun _ h1 h2 => le_lcs h2 h1) (lcs_le_iff fun _ h1 h2 => le_lcs h2 h1)
theorem lcs_rev_le (x y : List α) : lcs x y ≤ lcs x.reverse y.reverse :=
  lcs_le_iff fun s h1 h2 => by
    have := le_lcs (List.reverse_sublist.2 h1) (List.reverse_sublist.2 h2)
    rwa [List.length_reverse] at this
theorem lcs_rev (x y : List α) : lcs x.reverse y.reverse = lcs x y :=
  Nat.le_antisymm (by have := lcs_rev_le x.reverse y.reverse; rwa [List.reverse_reverse, List.reverse_reverse] at this) (lcs_rev_le x y)
theorem lcs_snoc (a b : α) (x y : List α) : lcs (x ++ [a]) (y ++ [b]) = if a = b then lcs x y + 1 else max (lcs x (y ++ [b])) (lcs (x ++ [a]) y) := by
  rw [← lcs_rev, List.reverse_append, List.reverse_append]
  simp only [List.reverse_cons, List.reverse_nil, List.nil_append, List.singleton_append]
  rw [lcs_cons, lcs_rev]
  rw [← lcs_rev x (y ++ [b]), ← lcs_rev (x ++ [a]) y, List.reverse_append, List.reverse_append]
  simp only [List.reverse_cons, List.reverse_nil, List.nil_append, List.singleton_append]
theorem lcs_front : ∀ (p x y : List α), lcs (p ++ x) (p ++ y) = p.length + lcs x y
  | [], x, y => by simp
  | a :: p, x, y => by
    rw [List.cons_append, List.cons_append, lcs_cons, if_pos rfl, lcs_front p x y]
    simp; omega
theorem lcs_back (s x y : List α) : lcs (x ++ s) (y ++ s) = lcs x y + s.length := by
  rw [← lcs_rev, List.reverse_append, List.reverse_append, lcs_front, lcs_rev, List.length_reverse]
  omega
theorem lcs_self (x : List α) : lcs x x = x.length := by
  have := lcs_front x [] []
  rw [List.append_nil, lcs_nil_left] at this
  omega
theorem lcs_le_left (x y : List α) : lcs x y ≤ x.length := lcs_le_iff fun _ h _ => h.length_le
theorem lcs_le_right (x y : List α) : lcs x y ≤ y.length := lcs_le_iff fun _ _ h => h.length_le
theorem lcs_chain (a b c : List α) : lcs a b + lcs b c ≤ lcs a c + b.length := by
  obtain ⟨s, h1, h2, h3⟩ := lcs_sub _ a b (Nat.le_refl _)
  obtain ⟨t, k1, k2, k3⟩ := lcs_sub _ b c (Nat.le_refl _)
  obtain ⟨u, a1, a2, a3⟩ := sub_meet b s t h2 k1
  have := le_lcs (a1.trans h1) (a2.trans k2)
  omega
end

/-- an edit -/
structure Ed where
  pos : Int
  del : Int
  ins : List (List UInt8)
abbrev Ls := List (List UInt8)
def emit (pos del : Nat) (ins : Ls) : List Ed := if del = 0 ∧ ins = [] then [] else [⟨pos, del, ins⟩]
/-- the way, line by line: behind 'pos' lines of a 'del' have gone, and 'ins' come, since a line stayed last -/
def go : Ls → Ls → Nat → Nat → Ls → List Ed
  | [], [], pos, del, ins => emit pos del ins
  | [], b :: y, pos, del, ins => go [] y pos del (ins ++ [b])
  | _ :: x, [], pos, del, ins => go x [] pos (del + 1) ins
  | a :: x, b :: y, pos, del, ins =>
    if a = b then emit pos del ins ++ go x y (pos + del + 1) 0 []
    else if lcs (a :: x) y ≤ lcs x (b :: y) then go x (b :: y) pos (del + 1) ins else go (a :: x) y pos del (ins ++ [b])
termination_by x y => x.length + y.length
theorem go_nil (pos del : Nat) (ins : Ls) : go [] [] pos del ins = emit pos del ins := by rw [go]
theorem go_come (b : List UInt8) (y : Ls) (pos del : Nat) (ins : Ls) : go [] (b :: y) pos del ins = go [] y pos del (ins ++ [b]) := by rw [go]
theorem go_gone (a : List UInt8) (x : Ls) (pos del : Nat) (ins : Ls) : go (a :: x) [] pos del ins = go x [] pos (del + 1) ins := by rw [go]
theorem go_both (a b : List UInt8) (x y : Ls) (pos del : Nat) (ins : Ls) : go (a :: x) (b :: y) pos del ins =
    if a = b then emit pos del ins ++ go x y (pos + del + 1) 0 []
    else if lcs (a :: x) y ≤ lcs x (b :: y) then go x (b :: y) pos (del + 1) ins else go (a :: x) y pos del (ins ++ [b]) := by rw [go]
theorem go_all_come : ∀ (y : Ls) (pos del : Nat) (ins : Ls), go [] y pos del ins = emit pos del (ins ++ y)
  | [], pos, del, ins => by rw [go_nil, List.append_nil]
  | b :: y, pos, del, ins => by rw [go_come, go_all_come y]; simp
theorem go_all_gone : ∀ (x : Ls) (pos del : Nat) (ins : Ls), go x [] pos del ins = emit pos (del + x.length) ins
  | [], pos, del, ins => by rw [go_nil]; simp
  | a :: x, pos, del, ins => by rw [go_gone, go_all_gone x]; simp; congr 1; omega
/-- one rule for what is in the program's own order -/
theorem go_ind (P : Ls → Ls → Nat → Nat → Ls → List Ed → Prop) (h0 : ∀ pos del ins, P [] [] pos del ins (emit pos del ins))
    (h1 : ∀ b y pos del ins r, P [] y pos del (ins ++ [b]) r → P [] (b :: y) pos del ins r) (h2 : ∀ a x pos del ins r, P x [] pos (del + 1) ins r → P (a :: x) [] pos del ins r)
    (h3 : ∀ a x y pos del ins r, P x y (pos + del + 1) 0 [] r → P (a :: x) (a :: y) pos del ins (emit pos del ins ++ r))
    (h4 : ∀ a b x y pos del ins r, a ≠ b → lcs (a :: x) y ≤ lcs x (b :: y) → P x (b :: y) pos (del + 1) ins r → P (a :: x) (b :: y) pos del ins r)
    (h5 : ∀ a b x y pos del ins r, a ≠ b → ¬ lcs (a :: x) y ≤ lcs x (b :: y) → P (a :: x) y pos del (ins ++ [b]) r → P (a :: x) (b :: y) pos del ins r) :
    ∀ (n : Nat) (x y : Ls) (pos del : Nat) (ins : Ls), x.length + y.length ≤ n → P x y pos del ins (go x y pos del ins)
  | _, [], [], pos, del, ins, _ => by rw [go_nil]; exact h0 _ _ _
  | 0, [], b :: y, pos, del, ins, h => by simp at h
  | n + 1, [], b :: y, pos, del, ins, h => by
    simp only [List.length_cons, List.length_nil] at h
    rw [go_come]; exact h1 _ _ _ _ _ _ (go_ind P h0 h1 h2 h3 h4 h5 n [] y _ _ _ (by simp; omega))
  | 0, a :: x, _, pos, del, ins, h => by simp at h
  | n + 1, a :: x, [], pos, del, ins, h => by
    simp only [List.length_cons, List.length_nil] at h
    rw [go_gone]; exact h2 _ _ _ _ _ _ (go_ind P h0 h1 h2 h3 h4 h5 n x [] _ _ _ (by simp; omega))
  | n + 1, a :: x, b :: y, pos, del, ins, h => by
    simp only [List.length_cons] at h
    rw [go_both]
    split
    · rename_i e
      subst e
      exact h3 _ _ _ _ _ _ _ (go_ind P h0 h1 h2 h3 h4 h5 n x y _ _ _ (by omega))
    · rename_i e
      split
      · rename_i hl
        exact h4 _ _ _ _ _ _ _ _ e hl (go_ind P h0 h1 h2 h3 h4 h5 n x (b :: y) _ _ _ (by simp; omega))
      · rename_i hl
        exact h5 _ _ _ _ _ _ _ _ e hl (go_ind P h0 h1 h2 h3 h4 h5 n (a :: x) y _ _ _ (by simp; omega))

/-- how many lines go and come -/
def size : List Ed → Int
  | [] => 0
  | e :: l => max 0 e.del + e.ins.length + size l
theorem size_append : ∀ l r : List Ed, size (l ++ r) = size l + size r
  | [], r => by simp [size]
  | e :: l, r => by rw [List.cons_append, size, size, size_append l r]; omega
theorem size_emit (pos del : Nat) (ins : Ls) : size (emit pos del ins) = del + ins.length := by
  unfold emit
  split
  · rename_i h; rw [h.1, h.2]; rfl
  · simp [size]
theorem size_go (x y : Ls) (pos del : Nat) (ins : Ls) : size (go x y pos del ins) + 2 * (lcs x y : Int) = x.length + y.length + del + ins.length := by
  refine go_ind (fun x y _ del ins r => size r + 2 * (lcs x y : Int) = x.length + y.length + del + ins.length) ?_ ?_ ?_ ?_ ?_ ?_ _ x y pos del ins (Nat.le_refl _)
  · intro pos del ins; rw [size_emit, lcs_nil_left]; simp
  · intro b y pos del ins r h; rw [lcs_nil_left] at h ⊢; simp at h ⊢; omega
  · intro a x pos del ins r h; rw [lcs_nil_right] at h ⊢; simp at h ⊢; omega
  · intro a x y pos del ins r h; rw [size_append, size_emit, lcs_cons, if_pos rfl]; simp at h ⊢; omega
  · intro a b x y pos del ins r hab hl h; rw [lcs_cons, if_neg hab]; simp at h ⊢; omega
  · intro a b x y pos del ins r hab hl h; rw [lcs_cons, if_neg hab]; simp at h ⊢; omega

/-- are edits right, behind an edit that ends at 'last'? -/
def right (n : Int) : Int → List Ed → Bool
  | _, [] => true
  | last, e :: l => (decide (0 ≤ e.del) && decide (e.del ≠ 0 ∨ e.ins ≠ []) && decide (last < e.pos) && decide (e.pos ≤ n) && decide (e.del ≤ n - e.pos)) && right n (e.pos + e.del) l
theorem right_cons (n last : Int) (e : Ed) (l : List Ed) : right n last (e :: l) = true ↔ (0 ≤ e.del ∧ (e.del ≠ 0 ∨ e.ins ≠ []) ∧ last < e.pos ∧ e.pos ≤ n ∧ e.del ≤ n - e.pos) ∧ right n (e.pos + e.del) l = true := by
  simp only [right, Bool.and_eq_true, decide_eq_true_eq, and_assoc]
theorem right_emit (n last : Int) (pos del : Nat) (ins : Ls) (r : List Ed) (h1 : last < pos) (h2 : (pos + del : Int) ≤ n) (hr : ∀ last' : Int, last' ≤ pos + del → right n last' r = true) : right n last (emit pos del ins ++ r) = true := by
  unfold emit
  split
  · exact hr last (by omega)
  · rename_i h
    rw [List.singleton_append, right_cons]
    refine ⟨⟨by simp, ?_, h1, by simp; omega, by simp; omega⟩, hr _ (by simp)⟩
    by_cases hd : del = 0
    · exact .inr fun e => h ⟨hd, e⟩
    · exact .inl (by simp; exact hd)
theorem right_go (n : Int) (x y : Ls) (pos del : Nat) (ins : Ls) (last : Int) (h1 : last < pos) (h2 : (pos + del + x.length : Int) ≤ n) : right n last (go x y pos del ins) = true := by
  refine go_ind (fun x y pos del ins r => ∀ last : Int, last < pos → (pos + del + x.length : Int) ≤ n → right n last r = true) ?_ ?_ ?_ ?_ ?_ ?_ _ x y pos del ins (Nat.le_refl _) last h1 h2
  · intro pos del ins last h1 h2
    have := right_emit n last pos del ins [] h1 (by simp at h2; omega) (fun _ _ => rfl)
    rwa [List.append_nil] at this
  · intro b y pos del ins r h last h1 h2; exact h last h1 h2
  · intro a x pos del ins r h last h1 h2; exact h last h1 (by simp at h2 ⊢; omega)
  · intro a x y pos del ins r h last h1 h2
    exact right_emit n last pos del ins r h1 (by simp at h2; omega) (fun l' hl => h l' (by omega) (by simp at h2 ⊢; omega))
  · intro a b x y pos del ins r hab hl h last h1 h2; exact h last h1 (by simp at h2 ⊢; omega)
  · intro a b x y pos del ins r hab hl h last h1 h2; exact h last h1 h2

/-- what lines become, from line 'at' on -/
def play (a : Ls) : Nat → List Ed → Ls
  | at_, [] => a.drop at_
  | at_, e :: l => (a.drop at_).take (e.pos.toNat - at_) ++ e.ins ++ play a (e.pos.toNat + e.del.toNat) l
theorem drop_split {α : Type} (a : List α) (i j : Nat) (h : i ≤ j) : a.drop i = (a.drop i).take (j - i) ++ a.drop j := by
  conv => lhs; rw [← List.take_append_drop (j - i) (a.drop i)]
  rw [List.drop_drop]
  congr 2
  omega
theorem play_go (a s : Ls) (x y : Ls) (pos del : Nat) (ins : Ls) (at_ : Nat) (h1 : at_ ≤ pos) (h2 : a.drop (pos + del) = x ++ s) :
    play a at_ (go x y pos del ins) = (a.drop at_).take (pos - at_) ++ ins ++ y ++ s := by
  refine go_ind (fun x y pos del ins r => ∀ at_ : Nat, at_ ≤ pos → a.drop (pos + del) = x ++ s → play a at_ r = (a.drop at_).take (pos - at_) ++ ins ++ y ++ s) ?_ ?_ ?_ ?_ ?_ ?_ _ x y pos del ins (Nat.le_refl _) at_ h1 h2
  · intro pos del ins at_ h1 h2
    unfold emit
    split
    · rename_i h
      rw [h.1, Nat.add_zero, List.nil_append] at h2
      rw [h.2, play]
      simp only [List.append_nil]
      rw [← h2]
      exact drop_split a at_ pos h1
    · simp only [play, Int.toNat_natCast, List.append_nil]
      rw [h2]; simp
  · intro b y pos del ins r h at_ h1 h2
    rw [h at_ h1 h2]; simp
  · intro a' x pos del ins r h at_ h1 h2
    refine h at_ h1 ?_
    rw [show pos + (del + 1) = pos + del + 1 from by omega, ← List.drop_drop, h2]
    rfl
  · intro c x y pos del ins r h at_ h1 h2
    have h3 : a.drop (pos + del + 1) = x ++ s := by rw [← List.drop_drop, h2]; rfl
    have h4 : (a.drop (pos + del)).take 1 = [c] := by rw [h2]; simp
    unfold emit
    split
    · rename_i hd
      rw [List.nil_append, h at_ (by omega) (by simpa using h3), hd.1, hd.2]
      have h5 : pos + 0 + 1 - at_ = pos - at_ + 1 := by omega
      rw [h5, List.take_add_one, List.getElem?_drop]
      rw [hd.1, Nat.add_zero] at h2
      have h6 : a[at_ + (pos - at_)]? = some c := by
        rw [show at_ + (pos - at_) = pos + 0 from by omega, ← List.getElem?_drop, h2]
        rfl
      rw [h6]
      simp
    · simp only [List.singleton_append, play, Int.toNat_natCast]
      rw [h (pos + del) (by omega) (by simpa using h3), show pos + del + 1 - (pos + del) = 1 from by omega, h4]
      simp
  · intro c b x y pos del ins r hab hl h at_ h1 h2
    refine h at_ h1 ?_
    rw [show pos + (del + 1) = pos + del + 1 from by omega, ← List.drop_drop, h2]
    rfl
  · intro c b x y pos del ins r hab hl h at_ h1 h2
    rw [h at_ h1 h2]; simp

/-- the edits back -/
def turn (a : Ls) : Int → List Ed → List Ed
  | _, [] => []
  | more, e :: l => ⟨e.pos + more, e.ins.length, (a.drop e.pos.toNat).take e.del.toNat⟩ :: turn a (more + e.ins.length - e.del) l
/-- what is known of right edits' first one -/
theorem right_head {n : Nat} {last : Int} {e : Ed} {l : List Ed} (h : right n last (e :: l) = true) (hl : -1 ≤ last) :
    ∃ p d : Nat, e.pos = p ∧ e.del = d ∧ p + d ≤ n ∧ last < p ∧ (d ≠ 0 ∨ e.ins ≠ []) ∧ right n ((p + d : Nat) : Int) l = true := by
  obtain ⟨⟨h1, h2, h3, h4, h5⟩, h6⟩ := (right_cons _ _ _ _).1 h
  obtain ⟨p, hp⟩ := Int.eq_ofNat_of_zero_le (show 0 ≤ e.pos by omega)
  obtain ⟨d, hd⟩ := Int.eq_ofNat_of_zero_le h1
  rw [hp, hd] at h6
  refine ⟨p, d, hp, hd, by omega, by omega, ?_, by rw [Int.natCast_add]; exact h6⟩
  rcases h2 with h2 | h2
  · exact .inl (by omega)
  · exact .inr h2
theorem play_turn (a : Ls) : ∀ (l : List Ed) (at_ : Nat) (last : Int) (pre : Ls) (F : Nat) (more : Int), -1 ≤ last → at_ ≤ last + 1 → right a.length last l = true → pre.length = F → (F : Int) = at_ + more →
    play (pre ++ play a at_ l) F (turn a more l) = a.drop at_
  | [], at_, last, pre, F, more, _, _, _, hp, _ => by
    subst hp
    simp [turn, play]
  | e :: l, at_, last, pre, F, more, h1, h2, hr, hp, hF => by
    obtain ⟨p, d, ep, ed, hpd, hlp, _, hr'⟩ := right_head hr h1
    have hat : at_ ≤ p := by omega
    rw [turn, play, play]
    simp only [ep, ed, Int.toNat_natCast]
    have e1 : ((p : Int) + more).toNat = F + (p - at_) := by omega
    rw [e1]
    have hlen : ((a.drop at_).take (p - at_)).length = p - at_ := by rw [List.length_take, List.length_drop]; omega
    have ih := play_turn a l (p + d) ((p + d : Nat) : Int) (pre ++ ((a.drop at_).take (p - at_) ++ e.ins)) (F + (p - at_) + e.ins.length) (more + e.ins.length - d) (by omega) (by omega) hr'
      (by rw [List.length_append, List.length_append, hlen, hp]; omega) (by omega)
    rw [List.append_assoc] at ih
    rw [ih, show F + (p - at_) - F = p - at_ from by omega, List.drop_left' hp]
    have e2 : ((a.drop at_).take (p - at_) ++ e.ins ++ play a (p + d) l).take (p - at_) = (a.drop at_).take (p - at_) := by
      rw [List.append_assoc, List.take_left' hlen]
    rw [e2, List.append_assoc, show a.drop (p + d) = a.drop (p + d) from rfl]
    have e3 : (a.drop p).take d ++ a.drop (p + d) = a.drop p := by
      have := drop_split a p (p + d) (by omega)
      rw [show p + d - p = d from by omega] at this
      exact this.symm
    rw [e3]
    exact (drop_split a at_ p hat).symm
theorem right_turn (a : Ls) : ∀ (l : List Ed) (at_ : Nat) (last more : Int) (n : Nat), -1 ≤ last → at_ ≤ last + 1 → right a.length last l = true → (n : Int) = (play a at_ l).length + at_ + more → right n (last + more) (turn a more l) = true
  | [], _, _, _, _, _, _, _, _ => rfl
  | e :: l, at_, last, more, n, h1, h2, hr, hn => by
    obtain ⟨p, d, ep, ed, hpd, hlp, hne, hr'⟩ := right_head hr h1
    rw [play] at hn
    simp only [ep, ed, Int.toNat_natCast, List.length_append, List.length_take, List.length_drop] at hn
    have ih := right_turn a l (p + d) ((p + d : Nat) : Int) (more + e.ins.length - d) n (by omega) (by omega) hr' (by omega)
    rw [turn, right_cons]
    simp only [ep, ed, Int.toNat_natCast]
    refine ⟨⟨by omega, ?_, by omega, by omega, by omega⟩, ?_⟩
    · rcases hne with h | h
      · right
        intro he
        have := congrArg List.length he
        rw [List.length_take, List.length_drop] at this
        simp at this
        omega
      · left
        have := List.length_pos_iff.2 h
        omega
    · have e1 : (p : Int) + more + e.ins.length = ((p + d : Nat) : Int) + (more + e.ins.length - d) := by omega
      rw [e1]; exact ih
theorem size_turn (a : Ls) : ∀ (l : List Ed) (last more : Int), -1 ≤ last → right a.length last l = true → size (turn a more l) = size l
  | [], _, _, _, _ => rfl
  | e :: l, last, more, h1, hr => by
    obtain ⟨p, d, ep, ed, hpd, hlp, hne, hr'⟩ := right_head hr h1
    rw [turn, size, size, size_turn a l ((p + d : Nat) : Int) _ (by omega) hr']
    simp only [ep, ed, Int.toNat_natCast, List.length_take, List.length_drop]
    omega
end Go.Proofs.YtlplgkdoiinfhaaDoor.Df
namespace Go.Proofs.YtlplgkdoiinfhaaDoor.Lw
open Go Go.RowKit Kt
theorem Vs.bound {w : World} {P : Nat → Prop} {A : Option Addr} {c : Nat} {vs : List Value} (h : Vs w P A c vs) : Vs w (fun b => b < w.heap.size) A c vs :=
  ⟨h.1, fun hn => by
    obtain ⟨b, o, rfl, hp, hc⟩ := h.2 hn
    obtain ⟨v, hv⟩ : ∃ v, vs[0]? = some v := ⟨vs[0], List.getElem?_eq_getElem hn⟩
    exact ⟨b, o, rfl, World.block_lt_of_cell? w ⟨b, o + 0, none⟩ (hc 0 v hv), hc⟩⟩
/-- the cell of text k, in a world behind -/
theorem Vs.text {w w' : World} {A : Option Addr} {c : Nat} {l : List (List UInt8)} (h : Vs w (fun b => b < w.heap.size) A c (texts l)) (hb : Below w.heap.size w w') {k : Nat} (hk : k < l.length) :
    ∃ b o, A = some ⟨b, o, none⟩ ∧ w'.cell? ⟨b, o + k, none⟩ = some (.string ⟨(l.getD k []).toArray⟩) := by
  obtain ⟨b, o, rfl, hp, hc⟩ := h.2 (by rw [texts_len]; omega)
  exact ⟨b, o, rfl, (World.cell?_of_block (a := ⟨b, o + k, none⟩) (hb.block b hp)).trans (hc k _ (texts_at l k hk))⟩
end Go.Proofs.YtlplgkdoiinfhaaDoor.Lw
namespace Go.Proofs.YtlplgkdoiinfhaaDoor.Li
open Go Go.RowKit Kt Lw

theorem texts_same (l r : List (List UInt8)) (hl : l.length = r.length) (h : ∀ j, j < l.length → l.getD j [] = r.getD j []) : l = r := by
  apply List.ext_getElem hl
  intro i h1 h2
  have := h i h1
  simpa [List.getElem?_eq_getElem h1, List.getElem?_eq_getElem h2] using this
theorem eq_txt (x y : List UInt8) : ((ByteArray.mk x.toArray).toList == (ByteArray.mk y.toArray).toList) = decide (x = y) := by
  rw [Lib.toList_data, Lib.toList_data, Bool.eq_iff_iff, beq_iff_eq, decide_eq_true_iff]
theorem app_txt (x y : List UInt8) : ByteArray.mk x.toArray ++ ByteArray.mk y.toArray = ⟨(x ++ y).toArray⟩ := by
  apply ByteArray.ext
  simp
end Go.Proofs.YtlplgkdoiinfhaaDoor.Li
namespace Go.Proofs.YtlplgkdoiinfhaaDoor.Df
open Go Go.RowKit Kt Lw

abbrev tS : TypeId := 9
/-- an edit's cells -/
def edC (e : Ed) (vi : Value) : List Value := [.int .i64 e.pos, .int .i64 e.del, vi]
theorem flat_at {α : Type} (f : α → List Value) (n : Nat) (hf : ∀ a, (f a).length = n) : ∀ (l : List α) (j k : Nat) (a : α), l[j]? = some a → k < n → (l.flatMap f)[n * j + k]? = (f a)[k]?
  | [], j, k, a, h, _ => by simp at h
  | b :: l, 0, k, a, h, hk => by
    simp at h
    subst h
    rw [List.flatMap_cons, Nat.mul_zero, Nat.zero_add, List.getElem?_append_left (by rw [hf]; exact hk)]
  | b :: l, j + 1, k, a, h, hk => by
    rw [List.flatMap_cons, List.getElem?_append_right (by rw [hf, Nat.mul_succ]; omega), hf]
    rw [show n * (j + 1) + k - n = n * j + k from by rw [Nat.mul_succ]; omega]
    exact flat_at f n hf l j k a (by simpa using h) hk
theorem flat_len {α : Type} (f : α → List Value) (n : Nat) (hf : ∀ a, (f a).length = n) (l : List α) : (l.flatMap f).length = l.length * n := by
  induction l with
  | nil => simp
  | cons a l ih => rw [List.flatMap_cons, List.length_append, hf, ih, List.length_cons, Nat.succ_mul]; omega
def pairC (p : Ed × Value) : List Value := edC p.1 p.2
theorem pairC_len (p : Ed × Value) : (pairC p).length = 3 := rfl
/-- '.slice A n c' reads as these edits -/
def Es (w : World) (A : Option Addr) (c : Nat) (L : List Ed) : Prop :=
  L.length ≤ c ∧ (0 < L.length → ∃ b o, A = some ⟨b, o, none⟩ ∧ b < w.heap.size ∧ ∀ j e, L[j]? = some e →
    ∃ A' c', w.rangeAt b (o + 3 * j) (edC e (.slice A' e.ins.length c')) ∧ Vs w (fun b => b < w.heap.size) A' c' (texts e.ins))
theorem vs_keep {w w' : World} {A : Option Addr} {c : Nat} {vs : List Value} (h : Vs w (fun b => b < w.heap.size) A c vs) (hb : Below w.heap.size w w') : Vs w' (fun b => b < w'.heap.size) A c vs :=
  Lw.Vs.bound (Lw.Vs.below h hb)
theorem Es.keep {w w' : World} {A : Option Addr} {c : Nat} {L : List Ed} (h : Es w A c L) (hb : Below w.heap.size w w') : Es w' A c L :=
  ⟨h.1, fun hn => by
    obtain ⟨b, o, rfl, hlt, he⟩ := h.2 hn
    refine ⟨b, o, rfl, Nat.lt_of_lt_of_le hlt hb.size, fun j e hj => ?_⟩
    obtain ⟨A', c', hr, hv⟩ := he j e hj
    exact ⟨A', c', fun i v hi => (World.cell?_of_block (a := ⟨b, o + 3 * j + i, none⟩) (hb.block b hlt)).trans (hr i v hi), vs_keep hv hb⟩⟩
theorem Es.nil (w : World) (A : Option Addr) (c : Nat) : Es w A c [] := ⟨Nat.zero_le _, fun h => by simp at h⟩
end Go.Proofs.YtlplgkdoiinfhaaDoor.Df
namespace Go.Proofs.YtlplgkdoiinfhaaDoor.Df
open Go Go.RowKit Go.WideShapes Go.ChangeShapes Go.ChangeAt Go.ChangeMaps Go.Deep Kt Lw

theorem list_of {α : Type} (Q : Nat → α → Prop) : ∀ n : Nat, (∀ i, i < n → ∃ a, Q i a) → ∃ L : List α, L.length = n ∧ ∀ j a, L[j]? = some a → Q j a
  | 0, _ => ⟨[], rfl, fun j a h => by simp at h⟩
  | n + 1, h => by
    obtain ⟨L, hl, hq⟩ := list_of Q n fun i hi => h i (by omega)
    obtain ⟨a, ha⟩ := h n (by omega)
    refine ⟨L ++ [a], by simp [hl], fun j b hj => ?_⟩
    rcases Nat.lt_or_ge j n with hlt | hge
    · rw [List.getElem?_append_left (by omega)] at hj
      exact hq j b hj
    · have hjl := (List.getElem?_eq_some_iff.1 hj).1
      simp [hl] at hjl
      obtain rfl : j = n := by omega
      rw [List.getElem?_append_right (by omega), hl, Nat.sub_self] at hj
      simp at hj
      rw [← hj]; exact ha
section
variable {H : Type} {enc : TypeId × Value → H}
theorem one_at (cs : List Value) (j : Nat) (v : Value) (h : (cs.drop j).take 1 = [v]) : cs[j]? = some v := by
  have h0 : ((cs.drop j).take 1)[0]? = some v := by rw [h]; rfl
  rw [List.getElem?_take, if_pos (by omega), List.getElem?_drop, Nat.add_zero] at h0
  exact h0
end
end Go.Proofs.YtlplgkdoiinfhaaDoor.Df
namespace Go.Proofs.YtlplgkdoiinfhaaDoor.Tr
open Go Go.RowKit Go.WideShapes Go.ChangeShapes Go.ChangeAt Go.ChangeMaps Go.Deep Kt Lw Li Df

abbrev tF : TypeId := 39
abbrev tFs : TypeId := 22
/-- a file's cells -/
def flC (f : Fl) : List Value := [.string ⟨f.path.toArray⟩, .string ⟨f.text.toArray⟩]
theorem flC_len (r : Fl) : (flC r).length = 2 := rfl
/-- files in a row of the call's own -/
def OwF (w : World) (B : Nat) (v : Value) (L : List Fl) : Prop := w.ownsRow B tF 2 v L.length (L.flatMap flC)
/-- '.slice A n c' reads as these files -/
def Fls (w : World) (A : Option Addr) (c : Nat) (L : List Fl) : Prop :=
  L.length ≤ c ∧ (0 < L.length → ∃ b o, A = some ⟨b, o, none⟩ ∧ b < w.heap.size ∧ ∀ j r, L[j]? = some r → w.rangeAt b (o + 2 * j) (flC r))
theorem OwF.nil (w : World) (B : Nat) : OwF w B (.slice none 0 0) [] := World.ownsRow_nil _ _ _ _
theorem Fls.nil (w : World) (A : Option Addr) (c : Nat) : Fls w A c [] := ⟨Nat.zero_le _, fun h => by simp at h⟩
theorem Fls.keep {w w' : World} {A : Option Addr} {c : Nat} {L : List Fl} (h : Fls w A c L) (hb : Below w.heap.size w w') : Fls w' A c L :=
  ⟨h.1, fun hn => by
    obtain ⟨b, o, rfl, hlt, he⟩ := h.2 hn
    exact ⟨b, o, rfl, Nat.lt_of_lt_of_le hlt hb.size, fun j e hj i v hi => (World.cell?_of_block (a := ⟨b, o + 2 * j + i, none⟩) (hb.block b hlt)).trans (he j e hj i v hi)⟩⟩
theorem OwF.fls {w : World} {B : Nat} {v : Value} {L : List Fl} (h : OwF w B v L) : ∃ A c, v = .slice A L.length c ∧ Fls w A c L := by
  have h' := h
  rcases h.2 with ⟨rfl, h0⟩ | ⟨g, cap, cur, rfl, hB, hg, hnc, hcm, hs, ht⟩
  · have e : L = [] := List.eq_nil_of_length_eq_zero h0
    subst e
    exact ⟨none, 0, rfl, Fls.nil _ _ _⟩
  · refine ⟨_, cap, rfl, hnc, fun _ => ⟨g, 0, rfl, (Array.getElem?_eq_some_iff.1 hg).1, fun j e hj k u hk => ?_⟩⟩
    have hjl : j < L.length := (List.getElem?_eq_some_iff.1 hj).1
    have hk7 : k < 2 := (List.getElem?_eq_some_iff.1 hk).1
    have := World.ownsRow.cellAt (cap := cap) h' (2 * j + k) (by omega)
    rw [Nat.zero_add, this, flat_at flC 2 flC_len L j k e hj hk7]
    exact hk
theorem OwF.below {w w' : World} {B : Nat} {v : Value} {L : List Fl} (h : OwF w B v L) {B' : Nat} (hb : Below B' w w') (hv : ∀ g, v.ownBlock = some g → g < B') : OwF w' B v L := by
  refine ⟨h.1, ?_⟩
  rcases h.2 with ⟨h1, h2⟩ | ⟨g, cap, cur, hv', h1, h2, h3⟩
  · exact .inl ⟨h1, h2⟩
  · exact .inr ⟨g, cap, cur, hv', h1, (hb.block g (hv g (by rw [hv']; rfl))).trans h2, h3⟩
theorem OwF.keep {w w' : World} {B : Nat} {v : Value} {L : List Fl} (h : OwF w B v L) (hb : Below w.heap.size w w') : OwF w' B v L := h.below hb fun g hg => (World.ownsRow.lt h g hg).2
theorem OwF.grown {w w' : World} {B : Nat} {v : Value} {L : List Fl} {r : Option Nat} (h : OwF w B v L) (hg : w.grownBy w' r) (hr : ∀ g, v.ownBlock = some g → some g ≠ r) : OwF w' B v L := by
  refine ⟨h.1, ?_⟩
  rcases h.2 with ⟨h1, h2⟩ | ⟨g, cap, cur, hv', h1, h2, h3⟩
  · exact .inl ⟨h1, h2⟩
  · exact .inr ⟨g, cap, cur, hv', h1, (hg.block g (Array.getElem?_eq_some_iff.1 h2).1 (hr g (by rw [hv']; rfl))).trans h2, h3⟩
theorem OwF.base {w : World} {B B' : Nat} {v : Value} {L : List Fl} (h : OwF w B v L) (hb : B' ≤ B) : OwF w B' v L :=
  ⟨h.1, h.2.imp id fun ⟨g, cap, cur, hv', h1, h2⟩ => ⟨g, cap, cur, hv', Nat.le_trans hb h1, h2⟩⟩
theorem OwF.drewN {w : World} {B : Nat} {v : Value} {L : List Fl} (h : OwF w B v L) (n : Nat) : OwF (w.drewN n) B v L := h
theorem OwF.drew {w : World} {B : Nat} {v : Value} {L : List Fl} (h : OwF w B v L) : OwF w.drew B v L := h
/-- a block of other cells is none of the row's -/
theorem OwF.ne {w : World} {B g : Nat} {t : TypeId} {cs : List Value} {v : Value} {L : List Fl} (hrow : Row w g t cs) (ht : t ≠ tF) (h : OwF w B v L) : ∀ b, v.ownBlock = some b → b ≠ g := by
  intro b hb e
  subst e
  rcases h.2 with ⟨rfl, _⟩ | ⟨g', cap, cur, rfl, _, hg', _⟩
  · cases hb
  · simp only [Value.ownBlock, Option.some.injEq] at hb
    subst hb
    unfold Row at hrow
    rw [hg'] at hrow
    simp only [Option.some.injEq, Obj.cells.injEq] at hrow
    exact ht hrow.2.1.symm
theorem infoFl : (Tryd.prog.info? 39).map (fun i => (i.zero, i.size, i.bytes)) = some (some (.agg #[.string ⟨#[]⟩, .string ⟨#[]⟩]), 2, 32) := by kernel_rfl
/-- append of one file -/
theorem wp_pushF {o : Oper} {a : Act} {K : Act → World → Prop} {Q : Exit → Act → World → Prop} {W : World} (s x : Operand)
    (ho : o.op = .call { callee := .builtin .append, args := #[s, x], argTypes := #[22, 22] })
    (B : Nat) (w0 : World) (v : Value) (L : List Fl) (e : Fl) (cs : Array Value) (hs : a.eval s = v) (hx : a.eval x = .slice (some ⟨W.heap.size, 0, none⟩) 1 1) (hc : cs = (flC e).toArray)
    (hown : OwF W B v L) (hlen : L.length + 1 ≤ 1000000000) (hb : Below B w0 W) (hbase : B ≤ W.heap.size)
    (h : ∀ v' w', OwF w' B v' (L ++ [e]) → Below B w0 w' → W.grownBy w' v.ownBlock → K (a.put o.dst v') w') : o.wp Tryd.prog a (W.alloc (.cells cs tF)) K Q := by
  obtain ⟨i0, hi0, hz0, hz1, hz2⟩ := info_parts infoFl
  subst hc
  refine wp_append_own _ s x 22 ho B tF i0 (.agg #[.string ⟨#[]⟩, .string ⟨#[]⟩]) 2 32 Tryd.underlying22 hi0 hz0 hz1 hz2 rfl (by omega) v L.length (L.flatMap flC) hs (World.ownsRow.alloc hown _)
    ⟨W.heap.size, 0, none⟩ 1 1 (flC e) hx rfl (fun j u hu => ?_) ?_ (by unfold maxLen; omega) (by omega) (by simp; omega) (fun v' w' h1 h2 _ => ?_)
  · rw [Addr.add_mid, (Row.fresh W tF (flC e).toArray).cell]
    simpa using hu
  · intro u hu
    simp only [flC, List.mem_cons, List.not_mem_nil, or_false] at hu
    rcases hu with rfl | rfl <;> rfl
  · have hg := grownBy_back _ h2
    refine h v' w' ?_ (hb.grown hg hbase fun k hk => (World.ownsRow.lt hown k hk).1) hg
    unfold OwF
    rw [List.flatMap_append, List.length_append]
    simpa using h1
theorem wpList_pushF {ops : Array Oper} {rest : List Oper} {o : Oper} {a : Act} {Q : Exit → Act → World → Prop} {W : World} (hgd : o.guard = none) (s x : Operand)
    (ho : o.op = .call { callee := .builtin .append, args := #[s, x], argTypes := #[22, 22] })
    (B : Nat) (w0 : World) (v : Value) (L : List Fl) (e : Fl) (cs : Array Value) (hs : a.eval s = v) (hx : a.eval x = .slice (some ⟨W.heap.size, 0, none⟩) 1 1) (hc : cs = (flC e).toArray)
    (hown : OwF W B v L) (hlen : L.length + 1 ≤ 1000000000) (hb : Below B w0 W) (hbase : B ≤ W.heap.size)
    (h : ∀ v' w', OwF w' B v' (L ++ [e]) → Below B w0 w' → W.grownBy w' v.ownBlock → wpList Tryd.prog ops Q rest (a.put o.dst v') w') : wpList Tryd.prog ops Q (o :: rest) a (W.alloc (.cells cs tF)) :=
  wpList_plain hgd fun _ hK => wp_pushF s x ho B w0 v L e cs hs hx hc hown hlen hb hbase fun v' w' h1 h2 h3 => hK _ _ (h v' w' h1 h2 h3)
/-- the file number k, in a world behind -/
theorem Fls.at {w w' : World} {A : Option Addr} {c : Nat} {L : List Fl} (h : Fls w A c L) (hb : Below w.heap.size w w') {k : Nat} (hk : k < L.length) :
    ∃ b o f, A = some ⟨b, o, none⟩ ∧ b < w.heap.size ∧ L[k]? = some f ∧ L.drop k = f :: L.drop (k + 1) ∧ w'.cell? ⟨b, o + k * 2, none⟩ = some (.string ⟨f.path.toArray⟩) ∧ w'.cell? ⟨b, o + k * 2 + 1, none⟩ = some (.string ⟨f.text.toArray⟩) := by
  obtain ⟨b, o, rfl, hlt, he⟩ := h.2 (by omega)
  have h1 := he k _ (List.getElem?_eq_getElem hk)
  rw [Nat.mul_comm] at h1
  have h3 : ∀ i v, (flC L[k])[i]? = some v → w'.cell? ⟨b, o + k * 2 + i, none⟩ = some v := fun i v hi => (World.cell?_of_block (a := ⟨b, o + k * 2 + i, none⟩) (hb.block b hlt)).trans (h1 i v hi)
  exact ⟨b, o, _, rfl, hlt, List.getElem?_eq_getElem hk, List.drop_eq_getElem_cons hk, h3 0 _ rfl, h3 1 _ rfl⟩
section
variable {H : Type} {enc : TypeId × Value → H}
set_option maxRecDepth 100000 in
theorem open_files {W : World} {base : Nat} {v : Value} {d : DataW H} {ps : List MemPlace}
    (hval : Value.okWide Tryd.prog W .any base 22 v) (h : DataW.Trod enc Tryd.prog W 0 (fun _ => true) true 22 v d ps) :
    ∃ (L : List Fl) (A : Option Addr) (c : Nat), v = .slice A L.length c ∧ (Fls W A c L ∧ ∀ f ∈ L, f.path.length ≤ maxLen ∧ f.text.length ≤ maxLen) ∧ L.length ≤ maxLen := by
  obtain ⟨a1, len, cap, rfl⟩ := okWide_slice Tryd.underlying22 hval
  obtain ⟨fuel, hf⟩ := h
  rcases open_slice Tryd.underlying22 hf with ⟨hcs, _⟩ | ⟨a, len', cap', m, n, D, Pl, hcs, _, hl, hm, hmm, _, hi⟩
  · simp [Value.cells] at hcs
    obtain ⟨rfl, rfl, rfl⟩ := hcs
    exact ⟨[], none, 0, rfl, ⟨Fls.nil _ _ _, fun f hf => by cases hf⟩, Nat.zero_le _⟩
  · simp [Value.cells] at hcs
    obtain ⟨rfl, rfl, rfl⟩ := hcs
    simp only [if_true] at hmm
    subst hmm
    have hC : Tryd.prog.cellsOf 39 = 2 := by kernel_rfl
    have cS : Tryd.prog.cellsOf 9 = 1 := by kernel_rfl
    rw [hC] at hi
    have hel : ∀ i, i < len → ∃ e : Fl, ∀ k u, (flC e)[k]? = some u → W.cell? ((a.add (i * 2)).add k) = some u := by
      intro i hil
      obtain ⟨cs', hc, ht⟩ := hi i (by omega)
      obtain ⟨_, hcl, hat⟩ := World.cells?_some hc
      obtain ⟨y0, y1, n', _, _, h0, h1⟩ := trod_struct2 Tryd.underlying39 ht
      simp only [cS] at h0 h1
      obtain ⟨p, e0, _, hp⟩ := DataW.trod_string Tryd.underlying9 h0
      obtain ⟨x, e1, _, hx⟩ := DataW.trod_string Tryd.underlying9 h1
      have k0 := one_at _ _ _ e0
      have k1 := one_at _ _ _ e1
      refine ⟨⟨p.data.toList, x.data.toList⟩, fun k u hk => ?_⟩
      have hk2 : k < 2 := (List.getElem?_eq_some_iff.1 hk).1
      rw [hat k hk2]
      rcases k with _ | _ | k
      · rw [k0, ← hk]; rfl
      · rw [k1, ← hk]; rfl
      · omega
    have hlen : ∀ i, i < len → ∀ e : Fl, (∀ k u, (flC e)[k]? = some u → W.cell? ((a.add (i * 2)).add k) = some u) → e.path.length ≤ maxLen ∧ e.text.length ≤ maxLen := by
      intro i hil e he
      obtain ⟨cs', hc, ht⟩ := hi i (by omega)
      obtain ⟨_, hcl, hat⟩ := World.cells?_some hc
      obtain ⟨y0, y1, n', _, _, h0, h1⟩ := trod_struct2 Tryd.underlying39 ht
      simp only [cS] at h0 h1
      obtain ⟨p, e0, _, hp⟩ := DataW.trod_string Tryd.underlying9 h0
      obtain ⟨x, e1, _, hx⟩ := DataW.trod_string Tryd.underlying9 h1
      have k0 := one_at _ _ _ e0
      have k1 := one_at _ _ _ e1
      have g0 := he 0 _ rfl
      have g1 := he 1 _ rfl
      rw [hat 0 (by omega), k0] at g0
      rw [hat 1 (by omega), k1] at g1
      simp only [Option.some.injEq, Value.string.injEq] at g0 g1
      have q0 := congrArg ByteArray.size g0
      have q1 := congrArg ByteArray.size g1
      exact ⟨by rw [show e.path.length = (ByteArray.mk e.path.toArray).size from rfl, ← q0]; exact hp, by rw [show e.text.length = (ByteArray.mk e.text.toArray).size from rfl, ← q1]; exact hx⟩
    obtain ⟨L, hLl, hQ⟩ := list_of _ len hel
    refine ⟨L, some a, m, by rw [hLl], ⟨⟨by omega, fun hn => ?_⟩, fun f hf => ?_⟩, by omega⟩
    · obtain ⟨ab, ao, spot⟩ := a
      obtain ⟨e0, hc0⟩ := hel 0 (by omega)
      have hspot : spot = none := by simpa [Addr.add] using World.cell?_spot (hc0 0 _ rfl)
      subst hspot
      have hlt : ab < W.heap.size := by
        have := hc0 0 _ rfl
        rw [Addr.add_mid, Addr.add_mid] at this
        exact World.block_lt_of_cell? W _ this
      refine ⟨ab, ao, rfl, hlt, fun j e hj k u hk => ?_⟩
      have := hQ j e hj k u hk
      rw [Addr.add_mid, Addr.add_mid] at this
      rw [Nat.mul_comm 2 j]
      exact this
    · obtain ⟨j, hj⟩ := List.getElem?_of_mem hf
      exact hlen j (by rw [← hLl]; exact (List.getElem?_eq_some_iff.1 hj).1) f (hQ j f hj)
set_option maxRecDepth 100000 in
open Go.Joins in
theorem open_file {W : World} {base : Nat} {v : Value} {d : DataW H} {ps : List MemPlace}
    (hval : Value.okWide Tryd.prog W .any base 39 v) (h : DataW.Trod enc Tryd.prog W 0 (fun _ => true) true 39 v d ps) :
    ∃ f : Fl, v = .agg #[.string ⟨f.path.toArray⟩, .string ⟨f.text.toArray⟩] ∧ f.path.length ≤ maxLen ∧ f.text.length ≤ maxLen := by
  obtain ⟨v0, v1, y0, y1, n, rfl, _, _, h0, h1⟩ := open_agg2 Tryd.underlying39 (by kernel_rfl) (by kernel_rfl) hval h
  obtain ⟨p, e0, _, hp⟩ := DataW.trod_string Tryd.underlying9 h0
  obtain ⟨x, e1, _, hx⟩ := DataW.trod_string Tryd.underlying9 h1
  simp only [List.cons.injEq, and_true] at e0 e1
  subst e0 e1
  exact ⟨⟨p.data.toList, x.data.toList⟩, rfl, hp, hx⟩
end
end Go.Proofs.YtlplgkdoiinfhaaDoor.Tr
