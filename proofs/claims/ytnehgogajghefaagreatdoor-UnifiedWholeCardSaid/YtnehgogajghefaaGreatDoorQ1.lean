/-
  Longest common subsequences, edits, and the way between two lists: on lists alone.
-/
import Derived.Lib.Bytealg
import Derived.Lib.Join
import Derived.Lib.ParseIntB
import Derived.Lib.IndexMore
import Derived.Lib.ItoaNum
namespace Go.Proofs.YtnehgogajghefaaGreatDoor.Df

/-- how long the longest common subsequence is -/
def lcs {α : Type} [DecidableEq α] : List α → List α → Nat
  | [], _ => 0
  | _ :: _, [] => 0
  | a :: x, b :: y => if a = b then lcs x y + 1 else max (lcs x (b :: y)) (lcs (a :: x) y)
termination_by x y => x.length + y.length

/-- two subsequences of one list have much in common -/
theorem sub_meet {α : Type} : ∀ (b s t : List α), s.Sublist b → t.Sublist b → ∃ u : List α, u.Sublist s ∧ u.Sublist t ∧ s.length + t.length ≤ u.length + b.length
  | [], s, t, h1, h2 => by
    rw [List.sublist_nil.1 h1, List.sublist_nil.1 h2]
    exact ⟨[], List.nil_sublist _, List.nil_sublist _, by simp⟩
  | c :: b, s, t, h1, h2 => by
    rcases List.sublist_cons_iff.1 h1 with k1 | ⟨s', rfl, k1⟩
    · rcases List.sublist_cons_iff.1 h2 with k2 | ⟨t', rfl, k2⟩
      · obtain ⟨u, a1, a2, a3⟩ := sub_meet b s t k1 k2
        exact ⟨u, a1, a2, by simp; omega⟩
      · obtain ⟨u, a1, a2, a3⟩ := sub_meet b s t' k1 k2
        exact ⟨u, a1, a2.cons c, by simp; omega⟩
    · rcases List.sublist_cons_iff.1 h2 with k2 | ⟨t', rfl, k2⟩
      · obtain ⟨u, a1, a2, a3⟩ := sub_meet b s' t k1 k2
        exact ⟨u, a1.cons c, a2, by simp; omega⟩
      · obtain ⟨u, a1, a2, a3⟩ := sub_meet b s' t' k1 k2
        exact ⟨c :: u, a1.cons_cons c, a2.cons_cons c, by simp; omega⟩
section
variable {α : Type} [DecidableEq α]
theorem lcs_nil_left (y : List α) : lcs [] y = 0 := by rw [lcs]
theorem lcs_nil_right (x : List α) : lcs x [] = 0 := by
  cases x with
  | nil => rw [lcs]
  | cons a x => rw [lcs]
theorem lcs_cons (a b : α) (x y : List α) : lcs (a :: x) (b :: y) = if a = b then lcs x y + 1 else max (lcs x (b :: y)) (lcs (a :: x) y) := by rw [lcs]
/-- it is reached -/
theorem lcs_sub : ∀ (n : Nat) (x y : List α), x.length + y.length ≤ n → ∃ s : List α, s.Sublist x ∧ s.Sublist y ∧ s.length = lcs x y
  | _, [], y, _ => ⟨[], List.nil_sublist _, List.nil_sublist _, by rw [lcs_nil_left]; rfl⟩
  | _, x, [], _ => ⟨[], List.nil_sublist _, List.nil_sublist _, by rw [lcs_nil_right]; rfl⟩
  | 0, a :: x, b :: y, h => by simp at h
  | n + 1, a :: x, b :: y, h => by
    simp only [List.length_cons] at h
    rw [lcs_cons]
    by_cases e : a = b
    · obtain ⟨s, h1, h2, h3⟩ := lcs_sub n x y (by omega)
      rw [if_pos e]
      subst e
      exact ⟨a :: s, h1.cons_cons a, h2.cons_cons a, by simp [h3]⟩
    · rw [if_neg e]
      obtain ⟨s, h1, h2, h3⟩ := lcs_sub n x (b :: y) (by simp; omega)
      obtain ⟨t, k1, k2, k3⟩ := lcs_sub n (a :: x) y (by simp; omega)
      rcases Nat.le_total (lcs (a :: x) y) (lcs x (b :: y)) with hl | hl
      · exact ⟨s, h1.cons a, h2, by omega⟩
      · exact ⟨t, k1, k2.cons b, by omega⟩
/-- and never passed -/
theorem lcs_ge : ∀ (n : Nat) (x y s : List α), x.length + y.length ≤ n → s.Sublist x → s.Sublist y → s.length ≤ lcs x y
  | _, [], y, s, _, h1, _ => by rw [List.sublist_nil.1 h1]; exact Nat.zero_le _
  | _, x, [], s, _, _, h2 => by rw [List.sublist_nil.1 h2]; exact Nat.zero_le _
  | 0, a :: x, b :: y, _, h, _, _ => by simp at h
  | n + 1, a :: x, b :: y, s, h, h1, h2 => by
    simp only [List.length_cons] at h
    rw [lcs_cons]
    by_cases e : a = b
    · rw [if_pos e]
      subst e
      cases s with
      | nil => exact Nat.zero_le _
      | cons c s =>
        have k1 : s.Sublist x := by
          rcases List.sublist_cons_iff.1 h1 with h | ⟨r, hr, hs⟩
          · exact (List.sublist_cons_self c s).trans h
          · cases hr; exact hs
        have k2 : s.Sublist y := by
          rcases List.sublist_cons_iff.1 h2 with h | ⟨r, hr, hs⟩
          · exact (List.sublist_cons_self c s).trans h
          · cases hr; exact hs
        have := lcs_ge n x y s (by omega) k1 k2
        simp; omega
    · rw [if_neg e]
      rcases List.sublist_cons_iff.1 h1 with k1 | ⟨r, rfl, k1⟩
      · have := lcs_ge n x (b :: y) s (by simp; omega) k1 h2
        omega
      · rcases List.sublist_cons_iff.1 h2 with k2 | ⟨r', hr, k2⟩
        · have := lcs_ge n (a :: x) y (a :: r) (by simp; omega) h1 k2
          omega
        · injection hr with h3 _
          exact absurd h3 e
theorem lcs_le_iff {x y : List α} {n : Nat} (h : ∀ s : List α, s.Sublist x → s.Sublist y → s.length ≤ n) : lcs x y ≤ n := by
  obtain ⟨s, h1, h2, h3⟩ := lcs_sub _ x y (Nat.le_refl _)
  rw [← h3]; exact h s h1 h2
theorem le_lcs {x y s : List α} (h1 : s.Sublist x) (h2 : s.Sublist y) : s.length ≤ lcs x y := lcs_ge _ x y s (Nat.le_refl _) h1 h2
theorem lcs_comm (x y : List α) : lcs x y = lcs y x :=
  Nat.le_antisymm (lcs_le_iff fun _ h1 h2 => le_lcs h2 h1) (lcs_le_iff fun _ h1 h2 => le_lcs h2 h1)
theorem lcs_rev_le (x y : List α) : lcs x y ≤ lcs x.reverse y.reverse :=
  lcs_le_iff fun s h1 h2 => by
    have := le_lcs (List.reverse_sublist.2 h1) (List.reverse_sublist.2 h2)
    rwa [List.length_reverse] at this
theorem lcs_rev (x y : List α) : lcs x.reverse y.reverse = lcs x y :=
  Nat.le_antisymm (by have := lcs_rev_le x.reverse y.reverse; rwa [List.reverse_reverse, List.reverse_reverse] at this) (lcs_rev_le x y)
theorem lcs_snoc (a b : α) (x y : List α) : lcs (x ++ [a]) (y ++ [b]) = if a = b then lcs x y + 1 else max (lcs x (y ++ [b])) (lcs (x ++ [a]) y) := by
  rw [← lcs_rev, List.reverse_append, List.reverse_append]
  simp only [List.reverse_cons, List.reverse_nil, List.nil_append, List.singleton_append]
  rw [lcs_cons, lcs_rev]
  rw [← lcs_rev x (y ++ [b]), ← lcs_rev (x ++ [a]) y, List.reverse_append, List.reverse_append]
  simp only [List.reverse_cons, List.reverse_nil, List.nil_append, List.singleton_append]
theorem lcs_front : ∀ (p x y : List α), lcs (p ++ x) (p ++ y) = p.length + lcs x y
  | [], x, y => by simp
  | a :: p, x, y => by
    rw [List.cons_append, List.cons_append, lcs_cons, if_pos rfl, lcs_front p x y]
    simp; omega
theorem lcs_back (s x y : List α) : lcs (x ++ s) (y ++ s) = lcs x y + s.length := by
  rw [← lcs_rev, List.reverse_append, List.reverse_append, lcs_front, lcs_rev, List.length_reverse]
  omega
theorem lcs_self (x : List α) : lcs x x = x.length := by
  have := lcs_front x [] []
  rw [List.append_nil, lcs_nil_left] at this
  omega
theorem lcs_le_left (x y : List α) : lcs x y ≤ x.length := lcs_le_iff fun _ h _ => h.length_le
theorem lcs_le_right (x y : List α) : lcs x y ≤ y.length := lcs_le_iff fun _ _ h => h.length_le
theorem lcs_chain (a b c : List α) : lcs a b + lcs b c ≤ lcs a c + b.length := by
  obtain ⟨s, h1, h2, h3⟩ := lcs_sub _ a b (Nat.le_refl _)
  obtain ⟨t, k1, k2, k3⟩ := lcs_sub _ b c (Nat.le_refl _)
  obtain ⟨u, a1, a2, a3⟩ := sub_meet b s t h2 k1
  have := le_lcs (a1.trans h1) (a2.trans k2)
  omega
end

/-- an edit -/
structure Ed where
  pos : Int
  del : Int
  ins : List (List UInt8)
abbrev Ls := List (List UInt8)
def emit (pos del : Nat) (ins : Ls) : List Ed := if del = 0 ∧ ins = [] then [] else [⟨pos, del, ins⟩]
/-- the way, line by line: behind 'pos' lines of a 'del' have gone, and 'ins' come, since a line stayed last -/
def go : Ls → Ls → Nat → Nat → Ls → List Ed
  | [], [], pos, del, ins => emit pos del ins
  | [], b :: y, pos, del, ins => go [] y pos del (ins ++ [b])
  | _ :: x, [], pos, del, ins => go x [] pos (del + 1) ins
  | a :: x, b :: y, pos, del, ins =>
    if a = b then emit pos del ins ++ go x y (pos + del + 1) 0 []
    else if lcs (a :: x) y ≤ lcs x (b :: y) then go x (b :: y) pos (del + 1) ins else go (a :: x) y pos del (ins ++ [b])
termination_by x y => x.length + y.length
theorem go_nil (pos del : Nat) (ins : Ls) : go [] [] pos del ins = emit pos del ins := by rw [go]
theorem go_come (b : List UInt8) (y : Ls) (pos del : Nat) (ins : Ls) : go [] (b :: y) pos del ins = go [] y pos del (ins ++ [b]) := by rw [go]
theorem go_gone (a : List UInt8) (x : Ls) (pos del : Nat) (ins : Ls) : go (a :: x) [] pos del ins = go x [] pos (del + 1) ins := by rw [go]
theorem go_both (a b : List UInt8) (x y : Ls) (pos del : Nat) (ins : Ls) : go (a :: x) (b :: y) pos del ins =
    if a = b then emit pos del ins ++ go x y (pos + del + 1) 0 []
    else if lcs (a :: x) y ≤ lcs x (b :: y) then go x (b :: y) pos (del + 1) ins else go (a :: x) y pos del (ins ++ [b]) := by rw [go]
theorem go_all_come : ∀ (y : Ls) (pos del : Nat) (ins : Ls), go [] y pos del ins = emit pos del (ins ++ y)
  | [], pos, del, ins => by rw [go_nil, List.append_nil]
  | b :: y, pos, del, ins => by rw [go_come, go_all_come y]; simp
theorem go_all_gone : ∀ (x : Ls) (pos del : Nat) (ins : Ls), go x [] pos del ins = emit pos (del + x.length) ins
  | [], pos, del, ins => by rw [go_nil]; simp
  | a :: x, pos, del, ins => by rw [go_gone, go_all_gone x]; simp; congr 1; omega
/-- one rule for what is in the program's own order -/
theorem go_ind (P : Ls → Ls → Nat → Nat → Ls → List Ed → Prop) (h0 : ∀ pos del ins, P [] [] pos del ins (emit pos del ins))
    (h1 : ∀ b y pos del ins r, P [] y pos del (ins ++ [b]) r → P [] (b :: y) pos del ins r) (h2 : ∀ a x pos del ins r, P x [] pos (del + 1) ins r → P (a :: x) [] pos del ins r)
    (h3 : ∀ a x y pos del ins r, P x y (pos + del + 1) 0 [] r → P (a :: x) (a :: y) pos del ins (emit pos del ins ++ r))
    (h4 : ∀ a b x y pos del ins r, a ≠ b → lcs (a :: x) y ≤ lcs x (b :: y) → P x (b :: y) pos (del + 1) ins r → P (a :: x) (b :: y) pos del ins r)
    (h5 : ∀ a b x y pos del ins r, a ≠ b → ¬ lcs (a :: x) y ≤ lcs x (b :: y) → P (a :: x) y pos del (ins ++ [b]) r → P (a :: x) (b :: y) pos del ins r) :
    ∀ (n : Nat) (x y : Ls) (pos del : Nat) (ins : Ls), x.length + y.length ≤ n → P x y pos del ins (go x y pos del ins)
  | _, [], [], pos, del, ins, _ => by rw [go_nil]; exact h0 _ _ _
  | 0, [], b :: y, pos, del, ins, h => by simp at h
  | n + 1, [], b :: y, pos, del, ins, h => by
    simp only [List.length_cons, List.length_nil] at h
    rw [go_come]; exact h1 _ _ _ _ _ _ (go_ind P h0 h1 h2 h3 h4 h5 n [] y _ _ _ (by simp; omega))
  | 0, a :: x, _, pos, del, ins, h => by simp at h
  | n + 1, a :: x, [], pos, del, ins, h => by
    simp only [List.length_cons, List.length_nil] at h
    rw [go_gone]; exact h2 _ _ _ _ _ _ (go_ind P h0 h1 h2 h3 h4 h5 n x [] _ _ _ (by simp; omega))
  | n + 1, a :: x, b :: y, pos, del, ins, h => by
    simp only [List.length_cons] at h
    rw [go_both]
    split
    · rename_i e
      subst e
      exact h3 _ _ _ _ _ _ _ (go_ind P h0 h1 h2 h3 h4 h5 n x y _ _ _ (by omega))
    · rename_i e
      split
      · rename_i hl
        exact h4 _ _ _ _ _ _ _ _ e hl (go_ind P h0 h1 h2 h3 h4 h5 n x (b :: y) _ _ _ (by simp; omega))
      · rename_i hl
        exact h5 _ _ _ _ _ _ _ _ e hl (go_ind P h0 h1 h2 h3 h4 h5 n (a :: x) y _ _ _ (by simp; omega))

/-- how many lines go and come -/
def size : List Ed → Int
  | [] => 0
  | e :: l => max 0 e.del + e.ins.length + size l
theorem size_append : ∀ l r : List Ed, size (l ++ r) = size l + size r
  | [], r => by simp [size]
  | e :: l, r => by rw [List.cons_append, size, size, size_append l r]; omega
theorem size_emit (pos del : Nat) (ins : Ls) : size (emit pos del ins) = del + ins.length := by
  unfold emit
  split
  · rename_i h; rw [h.1, h.2]; rfl
  · simp [size]
theorem size_go (x y : Ls) (pos del : Nat) (ins : Ls) : size (go x y pos del ins) + 2 * (lcs x y : Int) = x.length + y.length + del + ins.length := by
  refine go_ind (fun x y _ del ins r => size r + 2 * (lcs x y : Int) = x.length + y.length + del + ins.length) ?_ ?_ ?_ ?_ ?_ ?_ _ x y pos del ins (Nat.le_refl _)
  · intro pos del ins; rw [size_emit, lcs_nil_left]; simp
  · intro b y pos del ins r h; rw [lcs_nil_left] at h ⊢; simp at h ⊢; omega
  · intro a x pos del ins r h; rw [lcs_nil_right] at h ⊢; simp at h ⊢; omega
  · intro a x y pos del ins r h; rw [size_append, size_emit, lcs_cons, if_pos rfl]; simp at h ⊢; omega
  · intro a b x y pos del ins r hab hl h; rw [lcs_cons, if_neg hab]; simp at h ⊢; omega
  · intro a b x y pos del ins r hab hl h; rw [lcs_cons, if_neg hab]; simp at h ⊢; omega

/-- are edits right, behind an edit that ends at 'last'? -/
def right (n : Int) : Int → List Ed → Bool
  | _, [] => true
  | last, e :: l => (decide (0 ≤ e.del) && decide (e.del ≠ 0 ∨ e.ins ≠ []) && decide (last < e.pos) && decide (e.pos ≤ n) && decide (e.del ≤ n - e.pos)) && right n (e.pos + e.del) l
theorem right_cons (n last : Int) (e : Ed) (l : List Ed) : right n last (e :: l) = true ↔ (0 ≤ e.del ∧ (e.del ≠ 0 ∨ e.ins ≠ []) ∧ last < e.pos ∧ e.pos ≤ n ∧ e.del ≤ n - e.pos) ∧ right n (e.pos + e.del) l = true := by
  simp only [right, Bool.and_eq_true, decide_eq_true_eq, and_assoc]
theorem right_emit (n last : Int) (pos del : Nat) (ins : Ls) (r : List Ed) (h1 : last < pos) (h2 : (pos + del : Int) ≤ n) (hr : ∀ last' : Int, last' ≤ pos + del → right n last' r = true) : right n last (emit pos del ins ++ r) = true := by
  unfold emit
  split
  · exact hr last (by omega)
  · rename_i h
    rw [List.singleton_append, right_cons]
    refine ⟨⟨by simp, ?_, h1, by simp; omega, by simp; omega⟩, hr _ (by simp)⟩
    by_cases hd : del = 0
    · exact .inr fun e => h ⟨hd, e⟩
    · exact .inl (by simp; exact hd)
theorem right_go (n : Int) (x y : Ls) (pos del : Nat) (ins : Ls) (last : Int) (h1 : last < pos) (h2 : (pos + del + x.length : Int) ≤ n) : right n last (go x y pos del ins) = true := by
  refine go_ind (fun x y pos del ins r => ∀ last : Int, last < pos → (pos + del + x.length : Int) ≤ n → right n last r = true) ?_ ?_ ?_ ?_ ?_ ?_ _ x y pos del ins (Nat.le_refl _) last h1 h2
  · intro pos del ins last h1 h2
    have := right_emit n last pos del ins [] h1 (by simp at h2; omega) (fun _ _ => rfl)
    rwa [List.append_nil] at this
  · intro b y pos del ins r h last h1 h2; exact h last h1 h2
  · intro a x pos del ins r h last h1 h2; exact h last h1 (by simp at h2 ⊢; omega)
  · intro a x y pos del ins r h last h1 h2
    exact right_emit n last pos del ins r h1 (by simp at h2; omega) (fun l' hl => h l' (by omega) (by simp at h2 ⊢; omega))
  · intro a b x y pos del ins r hab hl h last h1 h2; exact h last h1 (by simp at h2 ⊢; omega)
  · intro a b x y pos del ins r hab hl h last h1 h2; exact h last h1 h2

/-- what lines become, from line 'at' on -/
def play (a : Ls) : Nat → List Ed → Ls
  | at_, [] => a.drop at_
  | at_, e :: l => (a.drop at_).take (e.pos.toNat - at_) ++ e.ins ++ play a (e.pos.toNat + e.del.toNat) l
theorem drop_split {α : Type} (a : List α) (i j : Nat) (h : i ≤ j) : a.drop i = (a.drop i).take (j - i) ++ a.drop j := by
  conv => lhs; rw [← List.take_append_drop (j - i) (a.drop i)]
  rw [List.drop_drop]
  congr 2
  omega
theorem play_go (a s : Ls) (x y : Ls) (pos del : Nat) (ins : Ls) (at_ : Nat) (h1 : at_ ≤ pos) (h2 : a.drop (pos + del) = x ++ s) :
    play a at_ (go x y pos del ins) = (a.drop at_).take (pos - at_) ++ ins ++ y ++ s := by
  refine go_ind (fun x y pos del ins r => ∀ at_ : Nat, at_ ≤ pos → a.drop (pos + del) = x ++ s → play a at_ r = (a.drop at_).take (pos - at_) ++ ins ++ y ++ s) ?_ ?_ ?_ ?_ ?_ ?_ _ x y pos del ins (Nat.le_refl _) at_ h1 h2
  · intro pos del ins at_ h1 h2
    unfold emit
    split
    · rename_i h
      rw [h.1, Nat.add_zero, List.nil_append] at h2
      rw [h.2, play]
      simp only [List.append_nil]
      rw [← h2]
      exact drop_split a at_ pos h1
    · simp only [play, Int.toNat_natCast, List.append_nil]
      rw [h2]; simp
  · intro b y pos del ins r h at_ h1 h2
    rw [h at_ h1 h2]; simp
  · intro a' x pos del ins r h at_ h1 h2
    refine h at_ h1 ?_
    rw [show pos + (del + 1) = pos + del + 1 from by omega, ← List.drop_drop, h2]
    rfl
  · intro c x y pos del ins r h at_ h1 h2
    have h3 : a.drop (pos + del + 1) = x ++ s := by rw [← List.drop_drop, h2]; rfl
    have h4 : (a.drop (pos + del)).take 1 = [c] := by rw [h2]; simp
    unfold emit
    split
    · rename_i hd
      rw [List.nil_append, h at_ (by omega) (by simpa using h3), hd.1, hd.2]
      have h5 : pos + 0 + 1 - at_ = pos - at_ + 1 := by omega
      rw [h5, List.take_add_one, List.getElem?_drop]
      rw [hd.1, Nat.add_zero] at h2
      have h6 : a[at_ + (pos - at_)]? = some c := by
        rw [show at_ + (pos - at_) = pos + 0 from by omega, ← List.getElem?_drop, h2]
        rfl
      rw [h6]
      simp
    · simp only [List.singleton_append, play, Int.toNat_natCast]
      rw [h (pos + del) (by omega) (by simpa using h3), show pos + del + 1 - (pos + del) = 1 from by omega, h4]
      simp
  · intro c b x y pos del ins r hab hl h at_ h1 h2
    refine h at_ h1 ?_
    rw [show pos + (del + 1) = pos + del + 1 from by omega, ← List.drop_drop, h2]
    rfl
  · intro c b x y pos del ins r hab hl h at_ h1 h2
    rw [h at_ h1 h2]; simp

/-- the edits back -/
def turn (a : Ls) : Int → List Ed → List Ed
  | _, [] => []
  | more, e :: l => ⟨e.pos + more, e.ins.length, (a.drop e.pos.toNat).take e.del.toNat⟩ :: turn a (more + e.ins.length - e.del) l
/-- what is known of right edits' first one -/
theorem right_head {n : Nat} {last : Int} {e : Ed} {l : List Ed} (h : right n last (e :: l) = true) (hl : -1 ≤ last) :
    ∃ p d : Nat, e.pos = p ∧ e.del = d ∧ p + d ≤ n ∧ last < p ∧ (d ≠ 0 ∨ e.ins ≠ []) ∧ right n ((p + d : Nat) : Int) l = true := by
  obtain ⟨⟨h1, h2, h3, h4, h5⟩, h6⟩ := (right_cons _ _ _ _).1 h
  obtain ⟨p, hp⟩ := Int.eq_ofNat_of_zero_le (show 0 ≤ e.pos by omega)
  obtain ⟨d, hd⟩ := Int.eq_ofNat_of_zero_le h1
  rw [hp, hd] at h6
  refine ⟨p, d, hp, hd, by omega, by omega, ?_, by rw [Int.natCast_add]; exact h6⟩
  rcases h2 with h2 | h2
  · exact .inl (by omega)
  · exact .inr h2
theorem play_turn (a : Ls) : ∀ (l : List Ed) (at_ : Nat) (last : Int) (pre : Ls) (F : Nat) (more : Int), -1 ≤ last → at_ ≤ last + 1 → right a.length last l = true → pre.length = F → (F : Int) = at_ + more →
    play (pre ++ play a at_ l) F (turn a more l) = a.drop at_
  | [], at_, last, pre, F, more, _, _, _, hp, _ => by
    subst hp
    simp [turn, play]
  | e :: l, at_, last, pre, F, more, h1, h2, hr, hp, hF => by
    obtain ⟨p, d, ep, ed, hpd, hlp, _, hr'⟩ := right_head hr h1
    have hat : at_ ≤ p := by omega
    rw [turn, play, play]
    simp only [ep, ed, Int.toNat_natCast]
    have e1 : ((p : Int) + more).toNat = F + (p - at_) := by omega
    rw [e1]
    have hlen : ((a.drop at_).take (p - at_)).length = p - at_ := by rw [List.length_take, List.length_drop]; omega
    have ih := play_turn a l (p + d) ((p + d : Nat) : Int) (pre ++ ((a.drop at_).take (p - at_) ++ e.ins)) (F + (p - at_) + e.ins.length) (more + e.ins.length - d) (by omega) (by omega) hr'
      (by rw [List.length_append, List.length_append, hlen, hp]; omega) (by omega)
    rw [List.append_assoc] at ih
    rw [ih, show F + (p - at_) - F = p - at_ from by omega, List.drop_left' hp]
    have e2 : ((a.drop at_).take (p - at_) ++ e.ins ++ play a (p + d) l).take (p - at_) = (a.drop at_).take (p - at_) := by
      rw [List.append_assoc, List.take_left' hlen]
    rw [e2, List.append_assoc, show a.drop (p + d) = a.drop (p + d) from rfl]
    have e3 : (a.drop p).take d ++ a.drop (p + d) = a.drop p := by
      have := drop_split a p (p + d) (by omega)
      rw [show p + d - p = d from by omega] at this
      exact this.symm
    rw [e3]
    exact (drop_split a at_ p hat).symm
theorem right_turn (a : Ls) : ∀ (l : List Ed) (at_ : Nat) (last more : Int) (n : Nat), -1 ≤ last → at_ ≤ last + 1 → right a.length last l = true → (n : Int) = (play a at_ l).length + at_ + more → right n (last + more) (turn a more l) = true
  | [], _, _, _, _, _, _, _, _ => rfl
  | e :: l, at_, last, more, n, h1, h2, hr, hn => by
    obtain ⟨p, d, ep, ed, hpd, hlp, hne, hr'⟩ := right_head hr h1
    rw [play] at hn
    simp only [ep, ed, Int.toNat_natCast, List.length_append, List.length_take, List.length_drop] at hn
    have ih := right_turn a l (p + d) ((p + d : Nat) : Int) (more + e.ins.length - d) n (by omega) (by omega) hr' (by omega)
    rw [turn, right_cons]
    simp only [ep, ed, Int.toNat_natCast]
    refine ⟨⟨by omega, ?_, by omega, by omega, by omega⟩, ?_⟩
    · rcases hne with h | h
      · right
        intro he
        have := congrArg List.length he
        rw [List.length_take, List.length_drop] at this
        simp at this
        omega
      · left
        have := List.length_pos_iff.2 h
        omega
    · have e1 : (p : Int) + more + e.ins.length = ((p + d : Nat) : Int) + (more + e.ins.length - d) := by omega
      rw [e1]; exact ih
theorem size_turn (a : Ls) : ∀ (l : List Ed) (last more : Int), -1 ≤ last → right a.length last l = true → size (turn a more l) = size l
  | [], _, _, _, _ => rfl
  | e :: l, last, more, h1, hr => by
    obtain ⟨p, d, ep, ed, hpd, hlp, hne, hr'⟩ := right_head hr h1
    rw [turn, size, size, size_turn a l ((p + d : Nat) : Int) _ (by omega) hr']
    simp only [ep, ed, Int.toNat_natCast, List.length_take, List.length_drop]
    omega
end Go.Proofs.YtnehgogajghefaaGreatDoor.Df
namespace Go.Proofs.YtnehgogajghefaaGreatDoor.Df

/-- how many in a row, from k on, p holds of, of so many at most -/
def run (p : Nat → Bool) : Nat → Nat → Nat
  | k, 0 => k
  | k, m + 1 => if p k = true then run p (k + 1) m else k
structure IsRun (p : Nat → Bool) (most n : Nat) : Prop where
  le : n ≤ most
  all : ∀ j, j < n → p j = true
  stop : n < most → p n = false
theorem IsRun.uniq {p : Nat → Bool} {most n m : Nat} (h : IsRun p most n) (k : IsRun p most m) : n = m := by
  rcases Nat.lt_trichotomy n m with hlt | he | hlt
  · have h1 := h.stop (by have := k.le; omega)
    have h2 := k.all n hlt
    rw [h1] at h2; cases h2
  · exact he
  · have h1 := k.stop (by have := h.le; omega)
    have h2 := h.all m hlt
    rw [h1] at h2; cases h2
theorem run_from (p : Nat → Bool) : ∀ (m k : Nat), (∀ j, j < k → p j = true) → IsRun p (k + m) (run p k m)
  | 0, k, h => ⟨Nat.le_refl _, h, fun h => absurd h (by simp [run])⟩
  | m + 1, k, h => by
    rw [run]
    by_cases hp : p k = true
    · rw [if_pos hp]
      have := run_from p m (k + 1) (fun j hj => by
        rcases Nat.lt_or_ge j k with hl | hl
        · exact h j hl
        · obtain rfl : j = k := by omega
          exact hp)
      rwa [show k + 1 + m = k + (m + 1) from by omega] at this
    · rw [if_neg hp]
      exact ⟨by omega, h, fun _ => by simpa using hp⟩
theorem run_is (p : Nat → Bool) (m : Nat) : IsRun p m (run p 0 m) := by
  have := run_from p m 0 (fun j h => absurd h (Nat.not_lt_zero _))
  rwa [Nat.zero_add] at this
theorem IsRun.congr {p q : Nat → Bool} {m n : Nat} (h : IsRun p m n) (he : ∀ j, j < m → p j = q j) : IsRun q m n :=
  ⟨h.le, fun j hj => by rw [← he j (by have := h.le; omega)]; exact h.all j hj, fun hn => by rw [← he n hn]; exact h.stop hn⟩

def frP (a b : Ls) (i : Nat) : Bool := decide (a.getD i [] = b.getD i [])
def bkP (a b : Ls) (i : Nat) : Bool := decide (a.getD (a.length - 1 - i) [] = b.getD (b.length - 1 - i) [])
def fr (a b : Ls) : Nat := run (frP a b) 0 (min a.length b.length)
def bk (a b : Ls) : Nat := run (bkP a b) 0 (min a.length b.length - fr a b)
/-- what is left of a list without so many in front, and behind -/
def mid (a : Ls) (f e : Nat) : Ls := (a.drop f).take (a.length - e - f)
/-- what is between two lists -/
def D (a b : Ls) : List Ed :=
  if (mid a (fr a b) (bk a b)).length * (mid b (fr a b) (bk a b)).length ≤ 65536 then go (mid a (fr a b) (bk a b)) (mid b (fr a b) (bk a b)) (fr a b) 0 []
  else emit (fr a b) (mid a (fr a b) (bk a b)).length (mid b (fr a b) (bk a b))
theorem fr_is (a b : Ls) : IsRun (frP a b) (min a.length b.length) (fr a b) := run_is _ _
theorem bk_is (a b : Ls) : IsRun (bkP a b) (min a.length b.length - fr a b) (bk a b) := run_is _ _
theorem mid_len (a : Ls) (f e : Nat) (h : f + e ≤ a.length) : (mid a f e).length = a.length - e - f := by
  unfold mid; rw [List.length_take, List.length_drop]; omega
theorem mid_parts (a : Ls) (f e : Nat) (h : f + e ≤ a.length) : a = a.take f ++ (mid a f e ++ a.drop (a.length - e)) := by
  unfold mid
  have := drop_split a f (a.length - e) (by omega)
  rw [← this, List.take_append_drop]
theorem ext_getD {x y : Ls} (hl : x.length = y.length) (h : ∀ j, j < x.length → x.getD j [] = y.getD j []) : x = y := by
  apply List.ext_getElem hl
  intro j h1 h2
  have := h j h1
  simpa [List.getD_eq_getElem?_getD, List.getElem?_eq_getElem h1, List.getElem?_eq_getElem h2] using this
/-- both lists by what they have in common in front and behind -/
theorem parts (a b : Ls) : ∃ p s x y : Ls, a = p ++ (x ++ s) ∧ b = p ++ (y ++ s) ∧ fr a b = p.length ∧ bk a b = s.length ∧ mid a (fr a b) (bk a b) = x ∧ mid b (fr a b) (bk a b) = y := by
  have hf := fr_is a b
  have he := bk_is a b
  have h1 := hf.le
  have h2 := he.le
  have hp : a.take (fr a b) = b.take (fr a b) := by
    apply ext_getD
    · rw [List.length_take, List.length_take]; omega
    · intro j hj
      rw [List.length_take] at hj
      have := hf.all j (by omega)
      simp only [frP, decide_eq_true_eq] at this
      simpa [List.getD_eq_getElem?_getD, List.getElem?_take, show j < fr a b from by omega] using this
  have hs : a.drop (a.length - bk a b) = b.drop (b.length - bk a b) := by
    apply ext_getD
    · rw [List.length_drop, List.length_drop]; omega
    · intro j hj
      rw [List.length_drop] at hj
      have := he.all (bk a b - 1 - j) (by omega)
      simp only [bkP, decide_eq_true_eq] at this
      rw [show a.length - 1 - (bk a b - 1 - j) = a.length - bk a b + j from by omega, show b.length - 1 - (bk a b - 1 - j) = b.length - bk a b + j from by omega] at this
      simpa [List.getD_eq_getElem?_getD, List.getElem?_drop] using this
  refine ⟨a.take (fr a b), a.drop (a.length - bk a b), _, _, mid_parts a _ _ (by omega), ?_, ?_, ?_, rfl, rfl⟩
  · rw [hp, hs]; exact mid_parts b _ _ (by omega)
  · rw [List.length_take]; omega
  · rw [List.length_drop]; omega
theorem mul_le {x y n m : Nat} (h1 : x ≤ n) (h2 : y ≤ m) : x * y ≤ n * m := Nat.mul_le_mul h1 h2
theorem D_size (a b : Ls) (h : a.length * b.length ≤ 65536) : size (D a b) + 2 * (lcs a b : Int) = a.length + b.length := by
  obtain ⟨p, s, x, y, ha, hb, hf, he, hx, hy⟩ := parts a b
  have hl : lcs a b = p.length + (lcs x y + s.length) := by rw [ha, hb, lcs_front, lcs_back]
  have la := congrArg List.length ha
  have lb := congrArg List.length hb
  rw [List.length_append, List.length_append] at la lb
  have hm : x.length * y.length ≤ 65536 := Nat.le_trans (mul_le (by omega) (by omega)) h
  unfold D
  rw [hx, hy, if_pos hm, hl, la, lb]
  have := size_go x y (fr a b) 0 []
  simp at this ⊢
  omega
theorem play_emit (a : Ls) (pos : Nat) (x y s : Ls) (at_ : Nat) (h : at_ ≤ pos) (h2 : a.drop pos = x ++ s) : play a at_ (emit pos x.length y) = (a.drop at_).take (pos - at_) ++ y ++ s := by
  unfold emit
  split
  · rename_i hd
    obtain rfl : x = [] := List.eq_nil_of_length_eq_zero hd.1
    rw [hd.2, play, List.append_nil, ← List.nil_append s, ← h2]
    exact drop_split a at_ pos h
  · simp only [play, Int.toNat_natCast]
    rw [← List.drop_drop, h2, List.drop_left]
theorem D_play (a b : Ls) : play a 0 (D a b) = b := by
  obtain ⟨p, s, x, y, ha, hb, hf, he, hx, hy⟩ := parts a b
  have hd : a.drop (fr a b) = x ++ s := by rw [hf]; conv => lhs; rw [ha]
                                           rw [List.drop_left]
  have ht : a.take (fr a b) = p := by rw [hf]; conv => lhs; rw [ha]
                                      rw [List.take_left]
  unfold D
  rw [hx, hy]
  split
  · rw [play_go a s x y (fr a b) 0 [] 0 (Nat.zero_le _) hd, List.drop_zero, Nat.sub_zero, ht, List.append_nil]
    conv => rhs; rw [hb]
    rw [List.append_assoc]
  · rw [play_emit a (fr a b) x y s 0 (Nat.zero_le _) hd, List.drop_zero, Nat.sub_zero, ht]
    conv => rhs; rw [hb]
    rw [List.append_assoc]
theorem D_right (a b : Ls) : right a.length (-1) (D a b) = true := by
  obtain ⟨p, s, x, y, ha, hb, hf, he, hx, hy⟩ := parts a b
  have la := congrArg List.length ha
  rw [List.length_append, List.length_append] at la
  unfold D
  rw [hx, hy]
  split
  · exact right_go _ _ _ _ _ _ _ (by omega) (by omega)
  · have := right_emit a.length (-1) (fr a b) x.length y [] (by omega) (by omega) (fun _ _ => rfl)
    rwa [List.append_nil] at this
theorem D_self (a : Ls) : D a a = [] := by
  have hf : fr a a = a.length := by
    refine (fr_is a a).uniq ⟨by omega, fun j _ => by simp [frP], fun h => by omega⟩
  have he : bk a a = 0 := by
    have := (bk_is a a).le
    omega
  unfold D
  rw [hf, he]
  simp [mid, go_nil, emit]
theorem D_nil {a b : Ls} (h : D a b = []) : a = b := by
  have := D_play a b
  rw [h, play] at this
  simpa using this
theorem D_nil_iff (a b : Ls) : ((D a b).length = 0) ↔ a = b :=
  ⟨fun h => D_nil (List.eq_nil_of_length_eq_zero h), fun h => by rw [h, D_self]; rfl⟩

/-- the same edits, further on -/
def shift (n : Nat) (l : List Ed) : List Ed := l.map fun e => ⟨e.pos + n, e.del, e.ins⟩
theorem shift_emit (n pos del : Nat) (ins : Ls) : emit (pos + n) del ins = shift n (emit pos del ins) := by
  unfold emit shift
  split
  · rfl
  · simp
theorem shift_go (n : Nat) (x y : Ls) (pos del : Nat) (ins : Ls) : go x y (pos + n) del ins = shift n (go x y pos del ins) := by
  have key : ∀ (m : Nat) (x y : Ls) (pos del : Nat) (ins : Ls), x.length + y.length ≤ m → go x y (pos + n) del ins = shift n (go x y pos del ins) := by
    intro m
    induction m with
    | zero =>
      intro x y pos del ins h
      obtain rfl : x = [] := List.eq_nil_of_length_eq_zero (by omega)
      obtain rfl : y = [] := List.eq_nil_of_length_eq_zero (by omega)
      rw [go_nil, go_nil, shift_emit]
    | succ m ih =>
      intro x y pos del ins h
      cases x with
      | nil =>
        cases y with
        | nil => rw [go_nil, go_nil, shift_emit]
        | cons b y => rw [go_come, go_come]; exact ih _ _ _ _ _ (by simp at h ⊢; omega)
      | cons a x =>
        cases y with
        | nil => rw [go_gone, go_gone]; exact ih _ _ _ _ _ (by simp at h ⊢; omega)
        | cons b y =>
          simp only [List.length_cons] at h
          rw [go_both, go_both]
          split
          · have e : pos + n + del + 1 = pos + del + 1 + n := by omega
            rw [e, ih x y _ _ _ (by omega), shift_emit]
            simp [shift]
          · split
            · exact ih _ _ _ _ _ (by simp; omega)
            · exact ih _ _ _ _ _ (by simp; omega)
  exact key _ x y pos del ins (Nat.le_refl _)
theorem getD_mid (F a G : Ls) (i : Nat) (h : i < a.length) : (F ++ (a ++ G)).getD (F.length + i) [] = a.getD i [] := by
  simp [List.getD_eq_getElem?_getD, List.getElem?_append_right, List.getElem?_append_left h]
theorem getD_front (F r : Ls) (i : Nat) (h : i < F.length) : (F ++ r).getD i [] = F.getD i [] := by
  simp [List.getD_eq_getElem?_getD, List.getElem?_append_left h]
theorem getD_back (F a G : Ls) (i : Nat) : (F ++ (a ++ G)).getD (F.length + (a.length + i)) [] = G.getD i [] := by
  simp [List.getD_eq_getElem?_getD, List.getElem?_append_right]
theorem getD_mem {l : Ls} {i : Nat} (h : i < l.length) : l.getD i [] ∈ l := by simp [List.getElem?_eq_getElem h]
theorem getD_rep (n i : Nat) (z : List UInt8) (h : i < n) : (List.replicate n z).getD i [] = z := by simp [h]
/-- what both have around changes nothing -/
theorem D_around (a b : Ls) (n m : Nat) (z : List UInt8) (ha : z ∉ a) (hb : z ∉ b) :
    D (List.replicate n z ++ (a ++ List.replicate m z)) (List.replicate n z ++ (b ++ List.replicate m z)) = shift n (D a b) := by
  by_cases hab : a = b
  · subst hab; rw [D_self, D_self]; rfl
  obtain ⟨F, hF⟩ : ∃ F, F = List.replicate n z := ⟨_, rfl⟩
  obtain ⟨G, hG⟩ : ∃ G, G = List.replicate m z := ⟨_, rfl⟩
  rw [← hF, ← hG]
  have lF : F.length = n := by rw [hF]; simp
  have lG : G.length = m := by rw [hG]; simp
  have hf := fr_is a b
  have he := bk_is a b
  obtain ⟨f, hfe⟩ : ∃ f, f = fr a b := ⟨_, rfl⟩
  obtain ⟨e, hee⟩ : ∃ e, e = bk a b := ⟨_, rfl⟩
  rw [← hfe] at hf he
  rw [← hee] at he
  have hf1 := hf.le
  have he1 := he.le
  have hnotboth : ¬ (f = a.length ∧ f = b.length) := by
    rintro ⟨h1, h2⟩
    refine hab (ext_getD (by omega) fun j hj => ?_)
    have := hf.all j (by omega)
    simpa [frP] using this
  have lA : (F ++ (a ++ G)).length = n + (a.length + m) := by simp [lF, lG]
  have lB : (F ++ (b ++ G)).length = n + (b.length + m) := by simp [lF, lG]
  have gA : ∀ i, i < a.length → (F ++ (a ++ G)).getD (n + i) [] = a.getD i [] := fun i h => by rw [← lF]; exact getD_mid F a G i h
  have gB : ∀ i, i < b.length → (F ++ (b ++ G)).getD (n + i) [] = b.getD i [] := fun i h => by rw [← lF]; exact getD_mid F b G i h
  have zA : ∀ i, i < m → (F ++ (a ++ G)).getD (n + (a.length + i)) [] = z := fun i h => by rw [← lF, getD_back, hG, getD_rep _ _ _ h]
  have zB : ∀ i, i < m → (F ++ (b ++ G)).getD (n + (b.length + i)) [] = z := fun i h => by rw [← lF, getD_back, hG, getD_rep _ _ _ h]
  have nA : ∀ i, i < a.length → a.getD i [] ≠ z := fun i h hz => ha (hz ▸ getD_mem h)
  have nB : ∀ i, i < b.length → b.getD i [] ≠ z := fun i h hz => hb (hz ▸ getD_mem h)
  have hfr : fr (F ++ (a ++ G)) (F ++ (b ++ G)) = n + f := by
    refine (fr_is _ _).uniq ⟨by rw [lA, lB]; omega, fun j hj => ?_, fun hlt => ?_⟩
    · simp only [frP, decide_eq_true_eq]
      rcases Nat.lt_or_ge j n with hjn | hjn
      · rw [getD_front _ _ _ (by omega), getD_front _ _ _ (by omega)]
      · obtain ⟨i, rfl⟩ : ∃ i, j = n + i := ⟨j - n, by omega⟩
        rw [gA i (by omega), gB i (by omega)]
        have := hf.all i (by omega)
        simpa [frP] using this
    · rw [lA, lB] at hlt
      simp only [frP, decide_eq_false_iff_not]
      rcases Nat.lt_or_ge f a.length with h1 | h1
      · rcases Nat.lt_or_ge f b.length with h2 | h2
        · rw [gA f h1, gB f h2]
          have := hf.stop (by omega)
          simpa [frP] using this
        · obtain rfl : f = b.length := by omega
          rw [gA _ h1, show n + b.length = n + (b.length + 0) from rfl, zB 0 (by omega)]
          exact nA _ h1
      · obtain rfl : f = a.length := by omega
        rw [gB _ (by omega), show n + a.length = n + (a.length + 0) from rfl, zA 0 (by omega)]
        exact fun h => nB _ (by omega) h.symm
  have hbk : bk (F ++ (a ++ G)) (F ++ (b ++ G)) = m + e := by
    refine (bk_is _ _).uniq ⟨by rw [lA, lB, hfr]; omega, fun j hj => ?_, fun hlt => ?_⟩
    · simp only [bkP, decide_eq_true_eq, lA, lB]
      rcases Nat.lt_or_ge j m with hjn | hjn
      · rw [show n + (a.length + m) - 1 - j = n + (a.length + (m - 1 - j)) from by omega, zA _ (by omega), show n + (b.length + m) - 1 - j = n + (b.length + (m - 1 - j)) from by omega, zB _ (by omega)]
      · rw [show n + (a.length + m) - 1 - j = n + (a.length - 1 - (j - m)) from by omega, gA _ (by omega), show n + (b.length + m) - 1 - j = n + (b.length - 1 - (j - m)) from by omega, gB _ (by omega)]
        have := he.all (j - m) (by omega)
        simpa [bkP] using this
    · rw [lA, lB, hfr] at hlt
      simp only [bkP, decide_eq_false_iff_not, lA, lB]
      rw [show n + (a.length + m) - 1 - (m + e) = n + (a.length - 1 - e) from by omega, gA _ (by omega), show n + (b.length + m) - 1 - (m + e) = n + (b.length - 1 - e) from by omega, gB _ (by omega)]
      have := he.stop (by omega)
      simpa [bkP] using this
  have hmid : ∀ c : Ls, f + e ≤ c.length → mid (F ++ (c ++ G)) (n + f) (m + e) = mid c f e := by
    intro c hc
    unfold mid
    have lC : (F ++ (c ++ G)).length = n + (c.length + m) := by simp [lF, lG]
    rw [lC, ← lF, ← List.drop_drop, List.drop_left, List.drop_append_of_le_length (by omega), lF, show n + (c.length + m) - (m + e) - (n + f) = c.length - e - f from by omega, List.take_append_of_le_length (by rw [List.length_drop]; omega)]
  unfold D
  rw [hfr, hbk, hmid a (by omega), hmid b (by omega), ← hfe, ← hee, Nat.add_comm n f, shift_go, shift_emit]
  split <;> rfl
/-- of two lists that are too long all of the middle goes, and comes -/
theorem D_long (n m k : Nat) (x y z : List UInt8) (hxy : x ≠ y) (hk : 65536 < k * k) :
    D (List.replicate n z ++ (List.replicate k x ++ List.replicate m z)) (List.replicate n z ++ (List.replicate k y ++ List.replicate m z)) = [⟨n, k, List.replicate k y⟩] := by
  have hk0 : 0 < k := by
    rcases Nat.eq_zero_or_pos k with h | h
    · subst h; simp at hk
    · exact h
  obtain ⟨F, hF⟩ : ∃ F, F = List.replicate n z := ⟨_, rfl⟩
  obtain ⟨G, hG⟩ : ∃ G, G = List.replicate m z := ⟨_, rfl⟩
  rw [← hF, ← hG]
  have lF : F.length = n := by rw [hF]; simp
  have lG : G.length = m := by rw [hG]; simp
  have lC : ∀ c : List UInt8, (F ++ (List.replicate k c ++ G)).length = n + (k + m) := fun c => by simp [lF, lG]
  have gC : ∀ (c : List UInt8) (i : Nat), i < k → (F ++ (List.replicate k c ++ G)).getD (n + i) [] = c := fun c i h => by
    rw [← lF, getD_mid F _ G i (by simpa using h), getD_rep _ _ _ h]
  have zC : ∀ (c : List UInt8) (i : Nat), i < m → (F ++ (List.replicate k c ++ G)).getD (n + (k + i)) [] = z := fun c i h => by
    have := getD_back F (List.replicate k c) G i
    rw [List.length_replicate, lF] at this
    rw [this, hG, getD_rep _ _ _ h]
  have hfr : fr (F ++ (List.replicate k x ++ G)) (F ++ (List.replicate k y ++ G)) = n := by
    refine (fr_is _ _).uniq ⟨by rw [lC, lC]; omega, fun j hj => ?_, fun _ => ?_⟩
    · simp only [frP, decide_eq_true_eq]
      rw [getD_front _ _ _ (by omega), getD_front _ _ _ (by omega)]
    · simp only [frP, decide_eq_false_iff_not]
      have h1 := gC x 0 hk0
      have h2 := gC y 0 hk0
      rw [Nat.add_zero] at h1 h2
      rw [h1, h2]
      exact hxy
  have hbk : bk (F ++ (List.replicate k x ++ G)) (F ++ (List.replicate k y ++ G)) = m := by
    refine (bk_is _ _).uniq ⟨by rw [lC, lC, hfr]; omega, fun j hj => ?_, fun _ => ?_⟩
    · simp only [bkP, decide_eq_true_eq, lC]
      rw [show n + (k + m) - 1 - j = n + (k + (m - 1 - j)) from by omega, zC _ _ (by omega), zC _ _ (by omega)]
    · simp only [bkP, decide_eq_false_iff_not, lC]
      rw [show n + (k + m) - 1 - m = n + (k - 1) from by omega, gC _ _ (by omega), gC _ _ (by omega)]
      exact hxy
  have hmid : ∀ c : List UInt8, mid (F ++ (List.replicate k c ++ G)) n m = List.replicate k c := by
    intro c
    unfold mid
    rw [lC, ← lF, List.drop_left, lF, show n + (k + m) - m - n = k from by omega, List.take_left' (by simp)]
  unfold D
  rw [hfr, hbk, hmid x, hmid y, List.length_replicate, List.length_replicate, if_neg (by omega)]
  unfold emit
  rw [if_neg (by omega)]
end Go.Proofs.YtnehgogajghefaaGreatDoor.Df
namespace Go.Proofs.YtnehgogajghefaaGreatDoor.Hu
open Df

/-- a hunk -/
structure Hk where
  a : Int
  an : Int
  b : Int
  bn : Int
  lines : Ls
/-- a line's sign -/
def sg (x : List UInt8) : UInt8 := x.headD 0
/-- how many lines stay, or have a sign -/
def many (s : UInt8) : Ls → Nat
  | [] => 0
  | x :: l => (if sg x = 32 ∨ sg x = s then 1 else 0) + many s l
theorem many_append (s : UInt8) : ∀ l r : Ls, many s (l ++ r) = many s l + many s r
  | [], r => by simp [many]
  | x :: l, r => by rw [List.cons_append, many, many, many_append s l r]; omega
theorem many_le (s : UInt8) : ∀ l : Ls, many s l ≤ l.length
  | [] => Nat.le_refl _
  | x :: l => by rw [many, List.length_cons]; have := many_le s l; split <;> omega
theorem many_snoc (s : UInt8) (L : Ls) (k : Nat) (h : k < L.length) : many s (L.take (k + 1)) = many s (L.take k) + (if sg (L.getD k []) = 32 ∨ sg (L.getD k []) = s then 1 else 0) := by
  rw [List.take_succ_eq_append_getElem h, many_append]; simp [many, List.getElem?_eq_getElem h]
theorem many_take (s : UInt8) (L : Ls) (k : Nat) : many s (L.take k) ≤ many s L := by
  have h := many_append s (L.take k) (L.drop k)
  rw [List.take_append_drop] at h
  omega
/-- may lines stand so; p: is the one ahead one that comes? -/
def okF : Bool → Ls → Bool
  | _, [] => true
  | p, x :: l => (decide (sg x = 32 ∨ sg x = 45 ∨ sg x = 43) && !(decide (sg x = 45) && p)) && okF (decide (sg x = 43)) l
def hright (h : Hk) : Bool := okF false h.lines && (((decide (0 ≤ h.a) && decide (0 ≤ h.b)) && decide (h.an = many 45 h.lines)) && decide (h.bn = many 43 h.lines))

/-- lines that stay, go, and come, without signs -/
structure Pt where
  st : Ls
  gn : Ls
  cm : Ls
def mk (s : UInt8) (l : Ls) : Ls := l.map (s :: ·)
def layP (p : Pt) : Ls := mk 32 p.st ++ (mk 45 p.gn ++ mk 43 p.cm)
def lay : List Pt → Ls
  | [] => []
  | p :: r => layP p ++ lay r
theorem mk_len (s : UInt8) (l : Ls) : (mk s l).length = l.length := by simp [mk]
theorem mk_nil (s : UInt8) : mk s [] = [] := rfl
theorem mk_cons (s : UInt8) (x : List UInt8) (l : Ls) : mk s (x :: l) = (s :: x) :: mk s l := rfl
theorem mk_append (s : UInt8) (l r : Ls) : mk s (l ++ r) = mk s l ++ mk s r := by simp [mk]
theorem mk_eq_nil {s : UInt8} {l : Ls} : mk s l = [] ↔ l = [] := by simp [mk]
theorem sg_mk (s : UInt8) (x : List UInt8) : sg (s :: x) = s := rfl
theorem lay_append : ∀ p q : List Pt, lay (p ++ q) = lay p ++ lay q
  | [], q => rfl
  | x :: p, q => by rw [List.cons_append, lay, lay, lay_append p q, List.append_assoc]
theorem many_mk (s t : UInt8) (l : Ls) : many s (mk t l) = if t = 32 ∨ t = s then l.length else 0 := by
  induction l with
  | nil => rw [mk_nil, many]; split <;> rfl
  | cons x l ih => rw [mk_cons, many, sg_mk, ih]; split <;> simp <;> omega
theorem many_old (p : Pt) : many 45 (layP p) = p.st.length + p.gn.length := by
  rw [layP, many_append, many_append, many_mk, many_mk, many_mk]; simp
theorem many_new (p : Pt) : many 43 (layP p) = p.st.length + p.cm.length := by
  rw [layP, many_append, many_append, many_mk, many_mk, many_mk]; simp
/-- each part but the last has lines that go or come, each but the first lines that stay, and none is empty -/
def Good : List Pt → Prop
  | [] => True
  | p :: r => (p.st ≠ [] ∨ p.gn ≠ [] ∨ p.cm ≠ []) ∧ (∀ q t, r = q :: t → (p.gn ≠ [] ∨ p.cm ≠ []) ∧ q.st ≠ []) ∧ Good r
theorem Good.tail {p : Pt} {r : List Pt} (h : Good (p :: r)) : Good r := h.2.2
/-- a text of lines begins with one that stays, or is empty -/
def Stay : Ls → Prop
  | [] => True
  | x :: _ => sg x = 32
theorem Good.stay {p : Pt} {r : List Pt} (h : Good (p :: r)) : Stay (lay r) := by
  cases r with
  | nil => trivial
  | cons q t =>
    obtain ⟨_, h2⟩ := h.2.1 q t rfl
    rw [lay, layP]
    cases hq : q.st with
    | nil => exact absurd hq h2
    | cons x s => exact rfl
theorem Good.last {p : Pt} {r : List Pt} (h : Good (p :: r)) (hg : p.gn = []) (hc : p.cm = []) : r = [] := by
  cases r with
  | nil => rfl
  | cons q t =>
    obtain ⟨h1, _⟩ := h.2.1 q t rfl
    rcases h1 with h1 | h1
    · exact absurd hg h1
    · exact absurd hc h1
theorem okF_cons (p : Bool) (x : List UInt8) (l : Ls) : okF p (x :: l) = true ↔ ((sg x = 32 ∨ sg x = 45 ∨ sg x = 43) ∧ (sg x = 45 → p = false)) ∧ okF (decide (sg x = 43)) l = true := by
  rw [okF, Bool.and_eq_true, Bool.and_eq_true, decide_eq_true_eq, Bool.not_eq_true', Bool.and_eq_false_iff]
  simp only [decide_eq_false_iff_not]
  constructor
  · rintro ⟨⟨h1, h2⟩, h3⟩
    exact ⟨⟨h1, fun h => h2.resolve_left fun k => k h⟩, h3⟩
  · rintro ⟨⟨h1, h2⟩, h3⟩
    refine ⟨⟨h1, ?_⟩, h3⟩
    by_cases h : sg x = 45
    · exact .inr (h2 h)
    · exact .inl h
theorem sg_split {x : List UInt8} {s : UInt8} (h : sg x = s) (hs : s ≠ 0) : ∃ t, x = s :: t := by
  cases x with
  | nil => exact absurd h.symm hs
  | cons b t => exact ⟨t, by rw [show b = s from h]⟩
/-- lines that may stand are parts -/
theorem parts_of : ∀ (L : Ls) (p : Bool), okF p L = true → ∃ ps, Good ps ∧ L = lay ps ∧ (p = true → ∀ q t, ps = q :: t → q.st = [] → q.gn = [])
  | [], p, _ => ⟨[], trivial, rfl, fun _ q t h => by cases h⟩
  | x :: l, p, h => by
    obtain ⟨⟨h1, h2⟩, h3⟩ := (okF_cons p x l).1 h
    obtain ⟨ps, hg, hl, hp⟩ := parts_of l _ h3
    rcases h1 with h1 | h1 | h1
    · obtain ⟨t, rfl⟩ := sg_split h1 (by decide)
      cases ps with
      | nil => exact ⟨[⟨[t], [], []⟩], ⟨.inl (by simp), (fun q s h => by cases h), trivial⟩, by rw [hl]; rfl, fun _ q s h hq => by cases h; cases hq⟩
      | cons q r =>
        refine ⟨⟨t :: q.st, q.gn, q.cm⟩ :: r, ⟨.inl (by simp), fun q' s h => hg.2.1 q' s h, hg.2.2⟩, by rw [hl]; rfl, fun _ q s h hq => by cases h; cases hq⟩
    · obtain ⟨t, rfl⟩ := sg_split h1 (by decide)
      have hpf := h2 h1
      cases ps with
      | nil => exact ⟨[⟨[], [t], []⟩], ⟨.inr (.inl (by simp)), (fun q s h => by cases h), trivial⟩, by rw [hl]; rfl, fun h => by rw [hpf] at h; cases h⟩
      | cons q r =>
        cases hq : q.st with
        | nil =>
          refine ⟨⟨[], t :: q.gn, q.cm⟩ :: r, ⟨.inr (.inl (by simp)), fun q' s h => ⟨.inl (by simp), (hg.2.1 q' s h).2⟩, hg.2.2⟩, ?_, fun h => by rw [hpf] at h; cases h⟩
          rw [hl, lay, layP, hq]; rfl
        | cons y s =>
          exact ⟨⟨[], [t], []⟩ :: q :: r, ⟨.inr (.inl (by simp)), fun q' s' h => by cases h; exact ⟨.inl (by simp), by rw [hq]; simp⟩, hg⟩, by rw [hl]; rfl, fun h => by rw [hpf] at h; cases h⟩
    · obtain ⟨t, rfl⟩ := sg_split h1 (by decide)
      cases ps with
      | nil => exact ⟨[⟨[], [], [t]⟩], ⟨.inr (.inr (by simp)), (fun q s h => by cases h), trivial⟩, by rw [hl]; rfl, fun _ q s h _ => by cases h; rfl⟩
      | cons q r =>
        cases hq : q.st with
        | nil =>
          have hgn := hp (decide_eq_true h1) q r rfl hq
          refine ⟨⟨[], [], t :: q.cm⟩ :: r, ⟨.inr (.inr (by simp)), fun q' s h => ⟨.inr (by simp), (hg.2.1 q' s h).2⟩, hg.2.2⟩, ?_, fun _ q s h _ => by cases h; rfl⟩
          rw [hl, lay, layP, hq, hgn]; rfl
        | cons y s =>
          exact ⟨⟨[], [], [t]⟩ :: q :: r, ⟨.inr (.inr (by simp)), fun q' s' h => by cases h; exact ⟨.inr (by simp), by rw [hq]; simp⟩, hg⟩, by rw [hl]; rfl, fun _ q s h _ => by cases h; rfl⟩
theorem okF_stay : ∀ (l : Ls) (p : Bool) (X : Ls), okF p (mk 32 l ++ X) = match l with | [] => okF p X | _ :: _ => okF false X
  | [], _, _ => rfl
  | x :: l, p, X => by
    rw [mk_cons, List.cons_append, okF, sg_mk, okF_stay l]
    cases l <;> simp
theorem okF_gone : ∀ (l : Ls) (X : Ls), okF false (mk 45 l ++ X) = okF false X
  | [], _ => rfl
  | x :: l, X => by rw [mk_cons, List.cons_append, okF, sg_mk, show decide ((45 : UInt8) = 43) = false from rfl, okF_gone l]; rfl
theorem okF_come : ∀ (l : Ls) (p : Bool) (X : Ls), okF p (mk 43 l ++ X) = match l with | [] => okF p X | _ :: _ => okF true X
  | [], _, _ => rfl
  | x :: l, p, X => by
    rw [mk_cons, List.cons_append, okF, sg_mk, okF_come l]
    cases l <;> simp
theorem okF_false_of_stay {X : Ls} (h : Stay X) (p q : Bool) : okF p X = okF q X := by
  cases X with
  | nil => rfl
  | cons x l =>
    have hx : sg x = 32 := h
    rw [okF, okF, hx]; simp
/-- parts are lines that may stand -/
theorem okF_lay : ∀ ps : List Pt, Good ps → okF false (lay ps) = true
  | [], _ => rfl
  | p :: r, h => by
    have ih := okF_lay r h.tail
    have hs := h.stay
    rw [lay, layP, List.append_assoc, List.append_assoc, okF_stay]
    have e : okF false (mk 45 p.gn ++ (mk 43 p.cm ++ lay r)) = true := by
      rw [okF_gone, okF_come]
      cases p.cm with
      | nil => exact ih
      | cons x l => rw [← ih]; exact okF_false_of_stay hs _ _
    cases p.st <;> exact e

/-- the lines that have a sign, from the first one on, and what is behind them -/
theorem front_mk (s : UInt8) : ∀ (l X : Ls), (∀ x t, X = x :: t → sg x ≠ s) → (mk s l ++ X).takeWhile (fun x => decide (sg x = s)) = mk s l ∧ (mk s l ++ X).dropWhile (fun x => decide (sg x = s)) = X
  | [], X, h => by
    cases X with
    | nil => exact ⟨rfl, rfl⟩
    | cons x t =>
      have hd := decide_eq_false (h x t rfl)
      rw [mk_nil, List.nil_append, List.takeWhile_cons, List.dropWhile_cons, hd]
      exact ⟨rfl, rfl⟩
  | y :: l, X, h => by
    obtain ⟨h1, h2⟩ := front_mk s l X h
    rw [mk_cons, List.cons_append, List.takeWhile_cons, List.dropWhile_cons, sg_mk, h1, h2]
    simp
theorem ne_of_stay {X : Ls} (h : Stay X) {s : UInt8} (hs : s ≠ 32) : ∀ x t, X = x :: t → sg x ≠ s := by
  rintro x t rfl
  have hx : sg x = 32 := h
  rw [hx]
  exact fun e => hs e.symm
theorem ne_gone (cm X : Ls) (h : Stay X) : ∀ x t, mk 43 cm ++ X = x :: t → sg x ≠ 45 := by
  intro x t he
  cases cm with
  | nil => exact ne_of_stay h (by decide) x t he
  | cons c l =>
    rw [mk_cons, List.cons_append] at he
    injection he with h1 _
    rw [← h1, sg_mk]; decide
theorem ne_stay {p : Pt} {r : List Pt} (h : Good (p :: r)) : ∀ x t, mk 45 p.gn ++ (mk 43 p.cm ++ lay r) = x :: t → sg x ≠ 32 := by
  intro x t he
  cases hg : p.gn with
  | cons c l =>
    rw [hg, mk_cons, List.cons_append] at he
    injection he with h1 _
    rw [← h1, sg_mk]; decide
  | nil =>
    cases hc : p.cm with
    | cons c l =>
      rw [hg, hc, mk_nil, List.nil_append, mk_cons, List.cons_append] at he
      injection he with h1 _
      rw [← h1, sg_mk]; decide
    | nil =>
      rw [h.last hg hc, hg, hc] at he
      cases he

/-- what parts tell, from line 'at' on -/
def emitZ (pos del : Int) (ins : Ls) : List Ed := if del = 0 ∧ ins = [] then [] else [⟨pos, del, ins⟩]
def edP : Int → List Pt → List Ed
  | _, [] => []
  | z, p :: r => emitZ (z + p.st.length) p.gn.length p.cm ++ edP (z + p.st.length + p.gn.length) r
/-- the same, line by line; o: the edit that is being told -/
def edL : Int → Option Ed → Ls → List Ed
  | _, o, [] => o.toList
  | z, o, x :: l =>
    if sg x = 32 then o.toList ++ edL (z + 1) none l
    else if sg x = 45 then edL (z + 1) (some ⟨(o.getD ⟨z, 0, []⟩).pos, (o.getD ⟨z, 0, []⟩).del + 1, (o.getD ⟨z, 0, []⟩).ins⟩) l
    else edL z (some ⟨(o.getD ⟨z, 0, []⟩).pos, (o.getD ⟨z, 0, []⟩).del, (o.getD ⟨z, 0, []⟩).ins ++ [x.tail]⟩) l
theorem edL_stay : ∀ (l X : Ls) (z : Int), edL z none (mk 32 l ++ X) = edL (z + l.length) none X
  | [], X, z => by simp [mk_nil]
  | x :: l, X, z => by
    rw [mk_cons, List.cons_append, edL, sg_mk, if_pos rfl, edL_stay l]
    simp only [Option.toList_none, List.nil_append, List.length_cons]
    congr 1; omega
theorem edL_gone : ∀ (l X : Ls) (z : Int) (e : Ed), edL z (some e) (mk 45 l ++ X) = edL (z + l.length) (some ⟨e.pos, e.del + l.length, e.ins⟩) X
  | [], X, z, e => by simp [mk_nil]
  | x :: l, X, z, e => by
    rw [mk_cons, List.cons_append, edL, sg_mk, if_neg (by decide), if_pos rfl, edL_gone l]
    simp only [Option.getD_some, List.length_cons]
    congr 1
    · omega
    · congr 2; omega
theorem edL_come : ∀ (l X : Ls) (z : Int) (e : Ed), edL z (some e) (mk 43 l ++ X) = edL z (some ⟨e.pos, e.del, e.ins ++ l⟩) X
  | [], X, z, e => by simp [mk_nil]
  | x :: l, X, z, e => by
    rw [mk_cons, List.cons_append, edL, sg_mk, if_neg (by decide), if_neg (by decide), edL_come l]
    simp
theorem edL_open (X : Ls) (z : Int) (x : List UInt8) (h : sg x ≠ 32) : edL z none (x :: X) = edL z (some ⟨z, 0, []⟩) (x :: X) := by
  rw [edL, edL, if_neg h, if_neg h]; simp
theorem edL_shut {X : Ls} (h : Stay X) (z : Int) (e : Ed) : edL z (some e) X = e :: edL z none X := by
  cases X with
  | nil => rfl
  | cons x l =>
    have hx : sg x = 32 := h
    rw [edL, edL, if_pos hx, if_pos hx]; rfl
theorem edL_lay : ∀ (ps : List Pt) (z : Int), Good ps → edL z none (lay ps) = edP z ps
  | [], z, _ => rfl
  | p :: r, z, h => by
    have ih := edL_lay r
    have hs := h.stay
    rw [lay, layP, List.append_assoc, List.append_assoc, edL_stay, edP, ← ih _ h.tail]
    unfold emitZ
    by_cases hd : p.gn = [] ∧ p.cm = []
    · rw [if_pos ⟨by rw [hd.1]; rfl, hd.2⟩, hd.1, hd.2]
      simp [mk_nil]
    · have hne : ¬ ((p.gn.length : Int) = 0 ∧ p.cm = []) := by
        rintro ⟨h1, h2⟩
        exact hd ⟨List.eq_nil_of_length_eq_zero (by omega), h2⟩
      rw [if_neg hne]
      have ho : edL (z + p.st.length) none (mk 45 p.gn ++ (mk 43 p.cm ++ lay r)) = edL (z + p.st.length) (some ⟨z + p.st.length, 0, []⟩) (mk 45 p.gn ++ (mk 43 p.cm ++ lay r)) := by
        cases hX : mk 45 p.gn ++ (mk 43 p.cm ++ lay r) with
        | nil =>
          have hg : p.gn = [] := mk_eq_nil.1 (List.append_eq_nil_iff.1 hX).1
          have hc : p.cm = [] := mk_eq_nil.1 (List.append_eq_nil_iff.1 (List.append_eq_nil_iff.1 hX).2).1
          exact absurd ⟨hg, hc⟩ hd
        | cons x l => exact edL_open _ _ _ (ne_stay h x l hX)
      rw [ho, edL_gone, edL_come, edL_shut hs]
      simp
/-- the other way round -/
def swp (p : Pt) : Pt := ⟨p.st, p.cm, p.gn⟩
theorem swp_swp (ps : List Pt) : (ps.map swp).map swp = ps := by
  rw [List.map_map]
  conv => rhs; rw [← List.map_id ps]
  rfl
theorem Good.swp : ∀ {ps : List Pt}, Good ps → Good (ps.map swp)
  | [], _ => trivial
  | p :: r, h => by
    refine ⟨?_, ?_, Good.swp h.tail⟩
    · rcases h.1 with h1 | h1 | h1
      · exact .inl h1
      · exact .inr (.inr h1)
      · exact .inr (.inl h1)
    · intro q t he
      cases r with
      | nil => cases he
      | cons q' t' =>
        obtain ⟨h1, h2⟩ := h.2.1 q' t' rfl
        rw [List.map_cons] at he
        injection he with he1 he2
        subst he1
        exact ⟨h1.symm, h2⟩
theorem many_lay (ps : List Pt) : many 45 (lay (ps.map swp)) = many 43 (lay ps) ∧ many 43 (lay (ps.map swp)) = many 45 (lay ps) := by
  induction ps with
  | nil => exact ⟨rfl, rfl⟩
  | cons p r ih =>
    rw [List.map_cons, lay, lay, many_append, many_append, many_append, many_append, ih.1, ih.2, many_old, many_new, many_old, many_new]
    exact ⟨rfl, rfl⟩
/-- the same line by line; c, g: what came, and went, since a line stayed -/
def turnA : Ls → Ls → Ls → Ls
  | c, g, [] => mk 45 c ++ mk 43 g
  | c, g, x :: l => if sg x = 32 then (mk 45 c ++ mk 43 g) ++ x :: turnA [] [] l else if sg x = 43 then turnA (c ++ [x.tail]) g l else turnA c (g ++ [x.tail]) l
theorem turnA_stay : ∀ (l X : Ls), turnA [] [] (mk 32 l ++ X) = mk 32 l ++ turnA [] [] X
  | [], X => rfl
  | x :: l, X => by rw [mk_cons, List.cons_append, turnA, sg_mk, if_pos rfl, turnA_stay l]; rfl
theorem turnA_gone : ∀ (l X c g : Ls), turnA c g (mk 45 l ++ X) = turnA c (g ++ l) X
  | [], X, c, g => by simp [mk_nil]
  | x :: l, X, c, g => by rw [mk_cons, List.cons_append, turnA, sg_mk, if_neg (by decide), if_neg (by decide), turnA_gone l]; simp
theorem turnA_come : ∀ (l X c g : Ls), turnA c g (mk 43 l ++ X) = turnA (c ++ l) g X
  | [], X, c, g => by simp [mk_nil]
  | x :: l, X, c, g => by rw [mk_cons, List.cons_append, turnA, sg_mk, if_neg (by decide), if_pos rfl, turnA_come l]; simp
theorem turnA_shut {X : Ls} (h : Stay X) (c g : Ls) : turnA c g X = (mk 45 c ++ mk 43 g) ++ turnA [] [] X := by
  cases X with
  | nil => simp [turnA, mk_nil]
  | cons x l =>
    have hx : sg x = 32 := h
    rw [turnA, turnA, if_pos hx, if_pos hx]; simp [mk_nil]
theorem turnA_lay : ∀ (ps : List Pt), Good ps → turnA [] [] (lay ps) = lay (ps.map swp)
  | [], _ => rfl
  | p :: r, h => by
    rw [lay, layP, List.append_assoc, List.append_assoc, turnA_stay, turnA_gone, turnA_come, turnA_shut h.stay, turnA_lay r h.tail, List.map_cons, lay, layP, swp]
    simp
end Go.Proofs.YtnehgogajghefaaGreatDoor.Hu
namespace Go.Proofs.YtnehgogajghefaaGreatDoor.Li
open Go

/-- how many bytes the first line has -/
def fst : List UInt8 → Nat
  | [] => 0
  | b :: r => if b = 10 then 1 else fst r + 1
/-- the lines -/
def lns : List UInt8 → List (List UInt8)
  | [] => []
  | b :: r => if b = 10 then [b] :: lns r else match lns r with
    | [] => [[b]]
    | h :: t => (b :: h) :: t
def closed (s : List UInt8) : Bool := s.getLast?.getD 10 == 10
def binary (s : List UInt8) : Bool := s.contains 0
/-- is line i of l one line, closed if it isn't the last one? -/
def okAt (l : List (List UInt8)) (i : Nat) : Bool := (lns (l.getD i [])).length == 1 && (!decide (i + 1 < l.length) || closed (l.getD i []))
def right (l : List (List UInt8)) : Bool := (List.range l.length).all (okAt l)

theorem fst_le : ∀ s : List UInt8, fst s ≤ s.length
  | [] => Nat.le_refl _
  | b :: r => by have := fst_le r; unfold fst; split <;> simp <;> omega
theorem fst_pos {s : List UInt8} (h : s ≠ []) : 0 < fst s := by
  cases s with
  | nil => exact absurd rfl h
  | cons b r => unfold fst; split <;> omega
theorem fst_index : ∀ s : List UInt8, (fst s : Int) = if 0 ≤ Lib.indexByte s 10 then Lib.indexByte s 10 + 1 else (s.length : Int)
  | [] => by simp [fst, Lib.indexByte]
  | b :: r => by
    have ih := fst_index r
    have hge := Lib.indexByte_ge r 10
    unfold fst Lib.indexByte
    by_cases hb : b = 10
    · simp [hb]
    · have hb' : (b == 10) = false := by simpa using hb
      simp only [hb, hb', if_false, Bool.false_eq_true]
      by_cases hm : Lib.indexByte r 10 = -1
      · simp [hm] at ih ⊢; omega
      · have hm' : (Lib.indexByte r 10 == -1) = false := by simpa using hm
        simp only [hm', Bool.false_eq_true, if_false]
        have h0 : 0 ≤ Lib.indexByte r 10 := by omega
        rw [if_pos h0] at ih
        rw [if_pos (by omega)]
        push_cast
        omega

theorem lns_cons (b : UInt8) (r : List UInt8) : lns (b :: r) = if b = 10 then [b] :: lns r else match lns r with
    | [] => [[b]]
    | h :: t => (b :: h) :: t := rfl
theorem fst_cons (b : UInt8) (r : List UInt8) : fst (b :: r) = if b = 10 then 1 else fst r + 1 := rfl
theorem lns_cut : ∀ {s : List UInt8}, s ≠ [] → lns s = s.take (fst s) :: lns (s.drop (fst s))
  | [], h => absurd rfl h
  | b :: r, _ => by
    rw [lns_cons, fst_cons]
    by_cases hb : b = 10
    · simp [hb]
    · simp only [hb, if_false, List.take_succ_cons, List.drop_succ_cons]
      by_cases hr : r = []
      · subst hr; rfl
      · rw [lns_cut hr]
theorem lns_nil : lns [] = [] := rfl
theorem lns_ne {s : List UInt8} (h : s ≠ []) : lns s ≠ [] := by rw [lns_cut h]; simp
theorem lns_flat : ∀ s : List UInt8, (lns s).flatten = s
  | [] => rfl
  | b :: r => by
    have ih := lns_flat r
    unfold lns
    by_cases hb : b = 10
    · simp [hb, ih]
    · simp only [hb, if_false]
      cases hl : lns r with
      | nil => rw [hl] at ih; simp at ih; simp [← ih]
      | cons h t => rw [hl] at ih; simp at ih ⊢; exact ih
theorem lns_len_le : ∀ s : List UInt8, (lns s).length ≤ s.length
  | [] => Nat.le_refl _
  | b :: r => by
    have ih := lns_len_le r
    unfold lns
    by_cases hb : b = 10
    · simp [hb]; exact ih
    · simp only [hb, if_false]
      cases hl : lns r with
      | nil => simp
      | cons h t => rw [hl] at ih; simp at ih ⊢; omega
/-- a line's length is bounded by the text's -/
theorem lns_mem_le {s x : List UInt8} (h : x ∈ lns s) : x.length ≤ s.length := by
  have := lns_flat s
  rw [← this]
  exact List.Sublist.length_le (List.sublist_flatten_of_mem h)

/-- the line that a byte comes to, from behind -/
theorem lns_snoc_open : ∀ (p : List UInt8) (b : UInt8), closed p = false → ∃ q x, lns p = q ++ [x] ∧ lns (p ++ [b]) = q ++ [x ++ [b]]
  | [], _, h => by simp [closed] at h
  | c :: r, b, h => by
    by_cases hr : r = []
    · subst hr
      have hc : c ≠ 10 := by simpa [closed] using h
      exact ⟨[], [c], by simp [lns, hc], by by_cases hb : b = 10 <;> simp [lns, hc, hb]⟩
    · have h' : closed r = false := by simpa [closed, List.getLast?_cons_of_ne_nil, List.getLast?_cons, hr, List.getLast?_eq_some_getLast hr] using h
      obtain ⟨q, x, e1, e2⟩ := lns_snoc_open r b h'
      by_cases hc : c = 10
      · exact ⟨[c] :: q, x, by simp [lns, hc, e1], by simp [lns, hc, e2]⟩
      · cases q with
        | nil => exact ⟨[], c :: x, by simp [lns, hc, e1], by simp [lns, hc, e2]⟩
        | cons y q => exact ⟨(c :: y) :: q, x, by simp [lns, hc, e1], by simp [lns, hc, e2]⟩
theorem closed_cons {c : UInt8} {r : List UInt8} (hr : r ≠ []) : closed (c :: r) = closed r := by
  simp [closed, List.getLast?_cons, List.getLast?_eq_some_getLast hr]
theorem closed_nil : closed [] = true := rfl
theorem closed_snoc (p : List UInt8) (b : UInt8) : closed (p ++ [b]) = (b == 10) := by simp [closed]
theorem lns_append : ∀ (p t : List UInt8), closed p = true → lns (p ++ t) = lns p ++ lns t
  | [], _, _ => rfl
  | c :: r, t, h => by
    by_cases hr : r = []
    · subst hr
      have hc : c = 10 := by simpa [closed] using h
      simp [lns, hc]
    · rw [closed_cons hr] at h
      have ih := lns_append r t h
      by_cases hc : c = 10
      · simp [lns, hc, ih]
      · have hl := lns_ne hr
        cases hq : lns r with
        | nil => exact absurd hq hl
        | cons y q => simp [lns, hc, ih, hq]
theorem lns_append_open (p t : List UInt8) (h : closed p = false) : (lns (p ++ t)).length = (lns p).length + (lns t).length - (if t = [] then 0 else 1) := by
  induction p with
  | nil => simp [closed] at h
  | cons c r ih =>
    by_cases hr : r = []
    · subst hr
      have hc : c ≠ 10 := by simpa [closed] using h
      by_cases ht : t = []
      · subst ht; simp [lns, hc]
      · have := lns_ne ht
        cases hq : lns t with
        | nil => exact absurd hq this
        | cons y q => simp [lns, hc, hq, ht]
    · rw [closed_cons hr] at h
      have ih := ih h
      have hl := lns_ne hr
      have hl' : lns (r ++ t) ≠ [] := lns_ne (by simp [hr])
      by_cases hc : c = 10
      · simp [lns, hc]
        rw [ih]
        by_cases ht : t = []
        · simp [ht, lns]
        · have : 0 < (lns t).length := List.length_pos_iff.2 (lns_ne ht)
          simp [ht]; omega
      · cases hq : lns r with
        | nil => exact absurd hq hl
        | cons y q =>
          cases hq' : lns (r ++ t) with
          | nil => exact absurd hq' hl'
          | cons y' q' => rw [hq, hq'] at ih; simp [lns, hc, hq, hq'] at ih ⊢; exact ih
/-- how many: the bytes 10, and one more, if the last line is open -/
theorem lns_count : ∀ s : List UInt8, (lns s).length = s.count 10 + (if closed s then 0 else 1)
  | [] => by simp [lns, closed]
  | b :: r => by
    have ih := lns_count r
    by_cases hr : r = []
    · subst hr
      by_cases hb : b = 10 <;> simp [lns, closed, hb]
    · rw [closed_cons hr]
      by_cases hb : b = 10
      · simp [lns, hb, ih]; omega
      · have hl := lns_ne hr
        cases hq : lns r with
        | nil => exact absurd hq hl
        | cons y q => rw [hq] at ih; simp [lns, hb, hq] at ih ⊢; exact ih
theorem lns_each_ne (s : List UInt8) : ∀ x ∈ lns s, x ≠ [] := by
  induction s with
  | nil => simp [lns]
  | cons b r ih =>
    unfold lns
    by_cases hb : b = 10
    · simp [hb]; exact ih
    · simp only [hb, if_false]
      cases hl : lns r with
      | nil => simp
      | cons h t => rw [hl] at ih; simp at ih ⊢; exact ih.2
/-- one line alone -/
theorem one_iff : ∀ x : List UInt8, (lns x).length = 1 ↔ lns x = [x] := by
  intro x
  constructor
  · intro h
    obtain ⟨y, hy⟩ := List.length_eq_one_iff.1 h
    have := lns_flat x
    rw [hy] at this
    simp at this
    rw [hy, this]
  · intro h; rw [h]; rfl
theorem one_iff' (x : List UInt8) : (lns x).length = 1 ↔ x ≠ [] ∧ 10 ∉ x.dropLast := by
  induction x with
  | nil => simp [lns]
  | cons b r ih =>
    by_cases hr : r = []
    · subst hr
      by_cases hb : b = 10 <;> simp [lns, hb]
    · have hl := lns_ne hr
      rw [List.dropLast_cons_of_ne_nil hr]
      by_cases hb : b = 10
      · have : 0 < (lns r).length := List.length_pos_iff.2 hl
        simp [lns, hb]
        exact hl
      · cases hq : lns r with
        | nil => exact absurd hq hl
        | cons y q =>
          rw [hq] at ih
          simp [lns, hb, hq, hr] at ih ⊢
          rw [ih]
          simp [Ne.symm hb]
/-- each line of a text is one, closed if it isn't the last one -/
theorem lns_right : ∀ s : List UInt8, ∀ (q : List (List UInt8)) (x : List UInt8) (t : List (List UInt8)), lns s = q ++ x :: t → lns x = [x] ∧ (t ≠ [] → closed x = true)
  | [], q, x, t, h => by simp [lns] at h
  | b :: r, q, x, t, h => by
    have ih := lns_right r
    by_cases hb : b = 10
    · simp only [lns, hb, if_true] at h
      cases q with
      | nil =>
        simp at h
        obtain ⟨rfl, rfl⟩ := h
        exact ⟨by simp [lns], fun _ => by simp [closed]⟩
      | cons y q =>
        simp at h
        exact ih q x t h.2
    · simp only [lns, hb, if_false] at h
      cases hl : lns r with
      | nil =>
        rw [hl] at h
        cases q with
        | nil => simp at h; obtain ⟨rfl, rfl⟩ := h; exact ⟨by simp [lns, hb], fun h => absurd rfl h⟩
        | cons y q => simp at h
      | cons y u =>
        rw [hl] at h
        cases q with
        | nil =>
          simp at h
          obtain ⟨rfl, rfl⟩ := h
          obtain ⟨e1, e2⟩ := ih [] y u (by rw [hl]; rfl)
          have hy : y ≠ [] := lns_each_ne r y (by rw [hl]; simp)
          exact ⟨by simp [lns, hb, e1], fun hu => by rw [closed_cons hy]; exact e2 hu⟩
        | cons z q =>
          simp at h
          exact ih (y :: q) x t (by rw [hl, h.2]; rfl)
theorem right_lns (s : List UInt8) : right (lns s) = true := by
  unfold right
  rw [List.all_eq_true]
  intro i hi
  have hi := List.mem_range.1 hi
  have e : lns s = (lns s).take i ++ (lns s)[i] :: (lns s).drop (i + 1) := by
    rw [← List.drop_eq_getElem_cons hi, List.take_append_drop]
  obtain ⟨e1, e2⟩ := lns_right s _ _ _ e
  unfold okAt
  have eg : (lns s).getD i [] = (lns s)[i] := by simp [List.getD_eq_getElem?_getD, hi]
  rw [eg, e1]
  by_cases hl : i + 1 < (lns s).length
  · have hne : (lns s).drop (i + 1) ≠ [] := by
      intro h
      have := congrArg List.length h
      simp at this
      omega
    simp [e2 hne]
  · simp [hl]
theorem right_cons (x : List UInt8) (t : List (List UInt8)) : right (x :: t) = ((lns x).length == 1 && (t.isEmpty || closed x) && right t) := by
  unfold right
  rw [List.length_cons, List.range_succ_eq_map, List.all_cons, List.all_map]
  have e0 : okAt (x :: t) 0 = ((lns x).length == 1 && (t.isEmpty || closed x)) := by
    unfold okAt
    cases t <;> simp
  have e1 : (okAt (x :: t) ∘ Nat.succ) = okAt t := by
    funext i
    simp [okAt]
  rw [e0, e1]
/-- right lines, joined, are split; lines that come of a text are right -/
theorem right_iff (l : List (List UInt8)) : right l = decide (lns l.flatten = l) := by
  by_cases h : lns l.flatten = l
  · rw [decide_eq_true h, ← h]; exact right_lns _
  · rw [decide_eq_false h]
    rcases Bool.eq_false_or_eq_true (right l) with hr | hr
    · refine absurd ?_ h
      clear h
      induction l with
      | nil => rfl
      | cons x t ih =>
        rw [right_cons] at hr
        simp only [Bool.and_eq_true, beq_iff_eq, Bool.or_eq_true, List.isEmpty_iff] at hr
        have hx := (one_iff x).1 hr.1.1
        rcases hr.1.2 with ht | hc
        · subst ht; simp [hx]
        · rw [List.flatten_cons, lns_append _ _ hc, hx, ih hr.2]; rfl
    · exact hr
theorem binary_append (s t : List UInt8) : binary (s ++ t) = (binary s || binary t) := by simp [binary]
end Go.Proofs.YtnehgogajghefaaGreatDoor.Li
namespace Go.Proofs.YtnehgogajghefaaGreatDoor.Un
open Go Df Li Hu

/-- the number that digits tell, behind one told so far -/
def dval (acc : Nat) (l : List UInt8) : Nat := l.foldl (fun a c => a * 10 + (c.toNat - 48)) acc
theorem dval_nil (acc : Nat) : dval acc [] = acc := rfl
theorem dval_cons (acc : Nat) (c : UInt8) (r : List UInt8) : dval acc (c :: r) = dval (acc * 10 + (c.toNat - 48)) r := by rw [dval, List.foldl_cons]; exact Eq.refl (dval _ r)
def isDig (c : UInt8) : Prop := 48 ≤ c.toNat ∧ c.toNat ≤ 57
theorem dval_ge : ∀ (l : List UInt8) (acc : Nat), acc ≤ dval acc l
  | [], acc => Nat.le_refl _
  | c :: r, acc => by rw [dval_cons]; have := dval_ge r (acc * 10 + (c.toNat - 48)); omega
theorem dval_append (l r : List UInt8) (acc : Nat) : dval acc (l ++ r) = dval (dval acc l) r := List.foldl_append
theorem dig_of (d : Nat) (h : d < 10) : isDig (UInt8.ofNat (48 + d)) ∧ (UInt8.ofNat (48 + d)).toNat - 48 = d := by
  have h1 : (UInt8.ofNat (48 + d)).toNat = 48 + d := by rw [UInt8.toNat_ofNat']; omega
  exact ⟨⟨by omega, by omega⟩, by omega⟩
theorem dec_dig (u : Nat) : ∀ c ∈ Lib.decDigits u, isDig c := by
  induction u using Nat.strongRecOn with
  | ind u ih =>
    intro c hc
    rw [Lib.decDigits] at hc
    split at hc
    · rename_i h
      obtain rfl : c = UInt8.ofNat (48 + u) := by simpa using hc
      exact (dig_of u h).1
    · rename_i h
      rcases List.mem_append.1 hc with hc | hc
      · exact ih (u / 10) (by omega) c hc
      · obtain rfl : c = UInt8.ofNat (48 + u % 10) := by simpa using hc
        exact (dig_of (u % 10) (by omega)).1
theorem dec_val (u : Nat) : dval 0 (Lib.decDigits u) = u := by
  induction u using Nat.strongRecOn with
  | ind u ih =>
    rw [Lib.decDigits]
    split
    · rename_i h
      rw [dval_cons, dval_nil, (dig_of u h).2]; omega
    · rename_i h
      rw [dval_append, ih (u / 10) (by omega), dval_cons, dval_nil, (dig_of (u % 10) (by omega)).2]; omega
theorem dec_ne (u : Nat) : Lib.decDigits u ≠ [] := by
  rw [Lib.decDigits]
  split
  · simp
  · simp
theorem pm_ok (M : Nat) (hM : M < 1844674407370955162) : ∀ (l : List UInt8) (acc : Nat), (∀ c ∈ l, isDig c) → dval acc l ≤ M → Lib.parseUintM M acc l = .ok (dval acc l)
  | [], acc, _, _ => rfl
  | c :: r, acc, hd, hv => by
    have h1 := hd c List.mem_cons_self
    rw [dval_cons] at hv
    have h2 := dval_ge r (acc * 10 + (c.toNat - 48))
    rw [Lib.parseUintM, if_pos (show 48 ≤ c.toNat ∧ c.toNat ≤ 57 from h1), if_neg (by omega), if_neg (by omega), dval_cons]
    exact pm_ok M hM r _ (fun c hc => hd c (List.mem_cons_of_mem _ hc)) hv
theorem pm_le (M : Nat) : ∀ (l : List UInt8) (acc v : Nat), acc ≤ M → Lib.parseUintM M acc l = .ok v → v ≤ M
  | [], acc, v, h, hp => by rw [Lib.parseUintM] at hp; injection hp with hp; omega
  | c :: r, acc, v, h, hp => by
    rw [Lib.parseUintM] at hp
    split at hp
    · split at hp
      · cases hp
      · split at hp
        · cases hp
        · exact pm_le M r _ v (by omega) hp
    · cases hp
/-- what readNumber answers -/
def pn (s : List UInt8) : Nat := match Lib.parseUintB 31 s with
  | .ok v => v
  | .syntax => 0
  | .range => 2147483647
theorem pn_le (s : List UInt8) : pn s ≤ 2147483647 := by
  unfold pn
  split
  · rename_i v h
    unfold Lib.parseUintB at h
    split at h
    · cases h
    · exact pm_le _ _ _ _ (Nat.zero_le _) h
  · omega
  · omega
theorem pn_dec (u : Nat) (h : u < 2147483648) : pn (Lib.decDigits u) = u := by
  have h1 : Lib.parseUintB 31 (Lib.decDigits u) = .ok u := by
    unfold Lib.parseUintB
    rw [if_neg (dec_ne u), pm_ok _ (by decide) _ _ (dec_dig u) (by rw [dec_val]; omega), dec_val]
  rw [pn, h1]
theorem itoa_nat (n : Int) (h : 0 ≤ n) : Lib.itoa n = Lib.decDigits n.toNat := by
  rw [Lib.itoa, if_neg (by omega)]
theorem itoa_dig (n : Int) (h : 0 ≤ n) : ∀ c ∈ Lib.itoa n, isDig c := by rw [itoa_nat n h]; exact dec_dig _
theorem pn_itoa (n : Int) (h : 0 ≤ n) (h2 : n < 2147483648) : (pn (Lib.itoa n) : Int) = n := by
  rw [itoa_nat n h, pn_dec _ (by omega)]; omega

/-- the first one of a word, behind what hasn't its first byte -/
theorem index_at (t : List UInt8) (b : UInt8) (y : List UInt8) : ∀ x : List UInt8, b ∉ x → Lib.index (x ++ (b :: t ++ y)) (b :: t) = x.length
  | [], _ => by
    rw [List.nil_append, List.cons_append, Lib.index, if_pos]
    · rfl
    · rw [← List.cons_append]
      exact List.isPrefixOf_iff_prefix.2 (List.prefix_append _ _)
  | c :: x, h => by
    have hc : c ≠ b := fun e => h (by rw [e]; exact List.mem_cons_self)
    have ih := index_at t b y x (fun hb => h (List.mem_cons_of_mem _ hb))
    rw [List.cons_append, Lib.index, ih, if_neg, if_neg]
    · simp
    · simp
    · simp [List.isPrefixOf, hc.symm]
theorem cut_at (t : List UInt8) (b : UInt8) (x y : List UInt8) (h : b ∉ x) : Lib.cut (x ++ (b :: t ++ y)) (b :: t) = (x, y, true) := by
  rw [Lib.cut, index_at t b y x h, if_pos (by omega)]
  have h1 : ((x.length : Int)).toNat = x.length := by omega
  rw [h1, List.take_left, ← List.drop_drop, List.drop_left, List.drop_left]

/-- where a side is told to be -/
def plc (p many : Int) : Int := p + min many 1
def sideT (p many : Int) : List UInt8 := Lib.itoa (plc p many) ++ 44 :: Lib.itoa many
def opensB : List UInt8 := [64, 64, 32, 45]
def plusB : List UInt8 := [32, 43]
def closesB : List UInt8 := [32, 64, 64, 10]
def headT (a an b bn : Int) : List UInt8 := opensB ++ (sideT a an ++ (plusB ++ (sideT b bn ++ closesB)))
/-- a side's numbers can be told -/
def Sml (p many : Int) : Prop := 0 ≤ p ∧ 0 ≤ many ∧ many < 2147483648 ∧ plc p many < 2147483648
def rdSide (s : List UInt8) : Int × Int := ((pn (Lib.cut s [44]).1 : Int) - min (pn (Lib.cut s [44]).2.1 : Int) 1, (pn (Lib.cut s [44]).2.1 : Int))
def rdRest (s : List UInt8) : List UInt8 := Lib.trimSuffix (Lib.trimPrefix s opensB) closesB
def rdOld (s : List UInt8) : Int × Int := rdSide (Lib.cut (rdRest s) plusB).1
def rdNew (s : List UInt8) : Int × Int := rdSide (Lib.cut (rdRest s) plusB).2.1
theorem dig_not {n : Int} (h : 0 ≤ n) (b : UInt8) (hb : b.toNat < 48) : b ∉ Lib.itoa n := fun hm => by
  have := (itoa_dig n h b hm).1
  omega
theorem Sml.plc {p m : Int} (h : Sml p m) : 0 ≤ plc p m := by obtain ⟨h1, h2, _⟩ := h; unfold Un.plc; omega
theorem rdSide_side {p m : Int} (h : Sml p m) : rdSide (sideT p m) = (p, m) := by
  have h0 := h.plc
  obtain ⟨h1, h2, h3, h4⟩ := h
  have hc : Lib.cut (sideT p m) [44] = (Lib.itoa (plc p m), Lib.itoa m, true) := cut_at [] 44 _ _ (dig_not h0 44 (by decide))
  rw [rdSide, hc, pn_itoa _ h0 h4, pn_itoa _ h2 h3]
  refine Prod.ext ?_ rfl
  show plc p m - min m 1 = p
  unfold Un.plc; omega
theorem side_not {p m : Int} (h : Sml p m) (b : UInt8) (hb : b.toNat < 44) : b ∉ sideT p m := fun hm => by
  rcases List.mem_append.1 hm with hm | hm
  · exact dig_not h.plc b (by omega) hm
  · rcases List.mem_cons.1 hm with hm | hm
    · rw [hm] at hb; exact absurd hb (by decide)
    · exact dig_not h.2.1 b (by omega) hm
theorem rdRest_head {a an b bn : Int} : rdRest (headT a an b bn) = sideT a an ++ (plusB ++ sideT b bn) := by
  have h1 : Lib.trimPrefix (headT a an b bn) opensB = sideT a an ++ (plusB ++ (sideT b bn ++ closesB)) := by
    have h0 : Lib.hasPrefix (headT a an b bn) opensB = true := List.isPrefixOf_iff_prefix.2 (List.prefix_append _ _)
    rw [Lib.trimPrefix, if_pos h0, headT, List.drop_left]
  have h2 : sideT a an ++ (plusB ++ (sideT b bn ++ closesB)) = (sideT a an ++ (plusB ++ sideT b bn)) ++ closesB := by simp only [List.append_assoc]
  have h0 : Lib.hasSuffix ((sideT a an ++ (plusB ++ sideT b bn)) ++ closesB) closesB = true := List.isSuffixOf_iff_suffix.2 (List.suffix_append _ _)
  rw [rdRest, h1, h2, Lib.trimSuffix, if_pos h0]
  rw [List.length_append, Nat.add_sub_cancel, List.take_left]
theorem rd_head {a an b bn : Int} (h : Sml a an) (h' : Sml b bn) : rdOld (headT a an b bn) = (a, an) ∧ rdNew (headT a an b bn) = (b, bn) := by
  have hc : Lib.cut (rdRest (headT a an b bn)) plusB = (sideT a an, sideT b bn, true) := by
    rw [rdRest_head]
    exact cut_at [43] 32 _ _ (side_not h 32 (by decide))
  rw [rdOld, rdNew, hc]
  exact ⟨rdSide_side h, rdSide_side h'⟩
theorem rdSide_sml {s : List UInt8} (h : 0 ≤ (rdSide s).1) : Sml (rdSide s).1 (rdSide s).2 := by
  have h1 := pn_le (Lib.cut s [44]).1
  have h2 := pn_le (Lib.cut s [44]).2.1
  refine ⟨h, ?_, ?_, ?_⟩
  · simp only [rdSide]; omega
  · simp only [rdSide]; omega
  · simp only [rdSide, plc]; omega
/-- what readHead answers -/
def hd (s : List UInt8) : Option Hk :=
  if 0 ≤ (rdOld s).1 ∧ 0 ≤ (rdNew s).1 ∧ headT (rdOld s).1 (rdOld s).2 (rdNew s).1 (rdNew s).2 = s then some ⟨(rdOld s).1, (rdOld s).2, (rdNew s).1, (rdNew s).2, []⟩ else none
theorem hd_some {s : List UInt8} {h : Hk} (e : hd s = some h) : h.lines = [] ∧ Sml h.a h.an ∧ Sml h.b h.bn ∧ s = headT h.a h.an h.b h.bn := by
  unfold hd at e
  split at e
  · rename_i hc
    injection e with e
    subst e
    exact ⟨rfl, rdSide_sml hc.1, rdSide_sml hc.2.1, hc.2.2.symm⟩
  · cases e
theorem hd_head {a an b bn : Int} (h : Sml a an) (h' : Sml b bn) : hd (headT a an b bn) = some ⟨a, an, b, bn, []⟩ := by
  obtain ⟨h1, h2⟩ := rd_head h h'
  rw [hd, h1, h2, if_pos ⟨h.1, h'.1, rfl⟩]
end Go.Proofs.YtnehgogajghefaaGreatDoor.Un
namespace Go.Proofs.YtnehgogajghefaaGreatDoor.Un
open Go Df Li Hu

/-- the line behind one that has no end -/
def markB : List UInt8 := [92, 32, 78, 111, 32, 110, 101, 119, 108, 105, 110, 101, 32, 97, 116, 32, 101, 110, 100, 32, 111, 102, 32, 102, 105, 108, 101, 10]
def lineT (x : List UInt8) : List UInt8 := if closed x then x else x ++ 10 :: markB
def hkT (h : Hk) : List UInt8 := headT h.a h.an h.b h.bn ++ (h.lines.map lineT).flatten
def smlB (p many : Int) : Bool := decide (max (max p many) (plc p many) < 2147483648)
def tell (h : Hk) : Bool := (hright h && (smlB h.a h.an && smlB h.b h.bn)) && h.lines.all (fun x => (lns x).length == 1)
def prt (l : List Hk) : List UInt8 := if l.all tell then (l.map hkT).flatten else []

/-- a reader: its hunks, the last one ahead; how many lines the last one lacks -/
structure St where
  rv : List Hk
  old : Int
  fresh : Int
def ahd : List Hk → List UInt8
  | [] => []
  | e :: _ => e.lines.getLast?.getD []
def noEnd (s : St) (x : List UInt8) : Option St := match s.rv with
  | [] => none
  | e :: V => if x = markB ∧ Lib.hasSuffix (ahd (e :: V)) [10] = true then some ⟨⟨e.a, e.an, e.b, e.bn, e.lines.dropLast ++ [(ahd (e :: V)).dropLast]⟩ :: V, s.old, s.fresh⟩ else none
def sds (x : List UInt8) : Int × Int := if sg x = 32 then (1, 1) else if sg x = 45 then (1, 0) else if sg x = 43 then (0, 1) else (0, 0)
def stepH (s : St) (x : List UInt8) : Option St := match hd x with
  | some h => some ⟨h :: s.rv, h.an, h.bn⟩
  | none => noEnd s x
def stepL (s : St) (x : List UInt8) : Option St :=
  if (sds x).1 + (sds x).2 = 0 then noEnd s x else match s.rv with
  | [] => none
  | e :: V => if closed x = true ∧ ¬ (sg x = 45 ∧ sg (ahd (e :: V)) = 43) ∧ (sds x).1 ≤ s.old ∧ (sds x).2 ≤ s.fresh then some ⟨⟨e.a, e.an, e.b, e.bn, e.lines ++ [x]⟩ :: V, s.old - (sds x).1, s.fresh - (sds x).2⟩ else none
def step (s : St) (x : List UInt8) : Option St := if s.old = 0 ∧ s.fresh = 0 then stepH s x else stepL s x
def run : St → Ls → Nat → Nat × Option St
  | s, [], n => (n, some s)
  | s, x :: l, n => match step s x with
    | none => (n + 1, none)
    | some s' => run s' l (n + 1)
def fin (r : Nat × Option St) : List Hk × Nat × Nat := match r.2 with
  | none => ([], r.1, 3)
  | some s => if s.old = 0 ∧ s.fresh = 0 then (s.rv.reverse, 0, 0) else ([], r.1 + 1, 2)
def parse (t : List UInt8) : List Hk × Nat × Nat := fin (run ⟨[], 0, 0⟩ (lns t) 0)

/-- one line -/
theorem lns_one : ∀ (y : List UInt8) (b : UInt8), 10 ∉ y → lns (y ++ [b]) = [y ++ [b]]
  | [], b, _ => by by_cases hb : b = 10 <;> simp [lns, hb]
  | c :: y, b, h => by
    have hc : c ≠ 10 := fun e => h (by rw [e]; exact List.mem_cons_self)
    rw [List.cons_append, lns_cons, if_neg hc, lns_one y b (fun hm => h (List.mem_cons_of_mem _ hm))]
theorem one_parts : ∀ {x : List UInt8}, lns x = [x] → ∃ y b, x = y ++ [b] ∧ 10 ∉ y
  | [], h => by simp [lns] at h
  | c :: r, h => by
    by_cases hr : r = []
    · exact ⟨[], c, by rw [hr]; rfl, by simp⟩
    · rw [lns_cons] at h
      by_cases hc : c = 10
      · rw [if_pos hc] at h
        injection h with h1 h2
        exact absurd h2 (lns_ne hr)
      · rw [if_neg hc] at h
        cases hq : lns r with
        | nil => exact absurd hq (lns_ne hr)
        | cons u q =>
          rw [hq] at h
          injection h with h1 h2
          injection h1 with _ h1
          subst h1 h2
          obtain ⟨y, b, h3, h4⟩ := one_parts hq
          exact ⟨c :: y, b, by rw [h3]; rfl, by simp only [List.mem_cons, not_or]; exact ⟨fun e => hc e.symm, h4⟩⟩
theorem one_ne {x : List UInt8} (h : lns x = [x]) : x ≠ [] := by rintro rfl; simp [lns] at h
theorem one_len {x : List UInt8} : ((lns x).length == 1) = true ↔ lns x = [x] := by
  constructor
  · intro h
    have h1 := lns_flat x
    match hq : lns x, h with
    | [y], _ => rw [hq] at h1; simp at h1; rw [h1]
  · intro h; rw [h]; rfl
theorem closed_one {y : List UInt8} {b : UInt8} : closed (y ++ [b]) = (b == 10) := closed_snoc y b
def lineL (x : List UInt8) : Ls := if closed x then [x] else [x ++ [10], markB]
def hkL (h : Hk) : Ls := headT h.a h.an h.b h.bn :: (h.lines.map lineL).flatten
theorem mark_one : lns markB = [markB] := lns_one [92, 32, 78, 111, 32, 110, 101, 119, 108, 105, 110, 101, 32, 97, 116, 32, 101, 110, 100, 32, 111, 102, 32, 102, 105, 108, 101] 10 (by decide)
theorem mark_closed : closed markB = true := by decide
theorem lineL_flat (x : List UInt8) : (lineL x).flatten = lineT x := by
  unfold lineL lineT
  split
  · simp
  · simp
theorem lines_flat : ∀ l : Ls, ((l.map lineL).flatten).flatten = (l.map lineT).flatten
  | [] => rfl
  | x :: l => by simp only [List.map_cons, List.flatten_cons, List.flatten_append, lineL_flat, lines_flat l]
theorem hkL_flat (h : Hk) : (hkL h).flatten = hkT h := by rw [hkL, List.flatten_cons, lines_flat, hkT]
theorem hks_flat : ∀ l : List Hk, ((l.map hkL).flatten).flatten = (l.map hkT).flatten
  | [] => rfl
  | h :: l => by simp only [List.map_cons, List.flatten_cons, List.flatten_append, hkL_flat, hks_flat l]
theorem open_no {x : List UInt8} (h : lns x = [x]) (hc : closed x = false) : 10 ∉ x := by
  obtain ⟨y, b, rfl, hy⟩ := one_parts h
  rw [closed_one] at hc
  have hb : b ≠ 10 := by simpa using hc
  simp only [List.mem_append, List.mem_singleton, not_or]
  exact ⟨hy, fun e => hb e.symm⟩
theorem lineT_lns {x : List UInt8} (h : lns x = [x]) (r : List UInt8) : lns (lineT x ++ r) = lineL x ++ lns r := by
  unfold lineT lineL
  cases hc : closed x with
  | true => rw [if_pos rfl, if_pos rfl, lns_append x r hc, h]
  | false =>
    have e : x ++ 10 :: markB ++ r = (x ++ [10]) ++ (markB ++ r) := by simp
    rw [if_neg (by simp), if_neg (by simp), e, lns_append _ _ (by rw [closed_snoc]; rfl), lns_append _ _ mark_closed, mark_one, lns_one x 10 (open_no h hc)]
    rfl
theorem linesT_lns : ∀ (l : Ls) (r : List UInt8), (∀ x ∈ l, lns x = [x]) → lns ((l.map lineT).flatten ++ r) = (l.map lineL).flatten ++ lns r
  | [], r, _ => rfl
  | x :: l, r, h => by
    simp only [List.map_cons, List.flatten_cons, List.append_assoc]
    rw [lineT_lns (h x List.mem_cons_self), linesT_lns l r (fun y hy => h y (List.mem_cons_of_mem _ hy))]
theorem head_no {a an b bn : Int} (h : Sml a an) (h' : Sml b bn) : ∃ y, headT a an b bn = y ++ [10] ∧ 10 ∉ y := by
  refine ⟨opensB ++ (sideT a an ++ (plusB ++ (sideT b bn ++ [32, 64, 64]))), by simp [headT, closesB], ?_⟩
  simp only [List.mem_append, not_or]
  exact ⟨by decide, side_not h 10 (by decide), by decide, side_not h' 10 (by decide), by decide⟩
theorem head_lns {a an b bn : Int} (h : Sml a an) (h' : Sml b bn) (r : List UInt8) : lns (headT a an b bn ++ r) = headT a an b bn :: lns r := by
  obtain ⟨y, e, hy⟩ := head_no h h'
  rw [e, lns_append _ _ (by rw [closed_snoc]; rfl), lns_one y 10 hy]
  rfl
theorem smlB_iff {p m : Int} (h0 : 0 ≤ p) (h1 : 0 ≤ m) : smlB p m = true ↔ Sml p m := by
  unfold smlB Sml plc
  rw [decide_eq_true_iff]
  omega
theorem hright_parts {h : Hk} (e : hright h = true) : okF false h.lines = true ∧ 0 ≤ h.a ∧ 0 ≤ h.b ∧ h.an = many 45 h.lines ∧ h.bn = many 43 h.lines := by
  unfold hright at e
  simp only [Bool.and_eq_true, decide_eq_true_eq] at e
  exact ⟨e.1, e.2.1.1.1, e.2.1.1.2, e.2.1.2, e.2.2⟩
theorem tell_iff {h : Hk} : tell h = true ↔ okF false h.lines = true ∧ Sml h.a h.an ∧ Sml h.b h.bn ∧ h.an = many 45 h.lines ∧ h.bn = many 43 h.lines ∧ ∀ x ∈ h.lines, lns x = [x] := by
  constructor
  · intro e
    unfold tell at e
    rw [Bool.and_eq_true, Bool.and_eq_true, Bool.and_eq_true] at e
    obtain ⟨⟨e1, e2, e3⟩, e4⟩ := e
    obtain ⟨p1, p2, p3, p4, p5⟩ := hright_parts e1
    exact ⟨p1, (smlB_iff p2 (by omega)).1 e2, (smlB_iff p3 (by omega)).1 e3, p4, p5, fun x hx => one_len.1 (List.all_eq_true.1 e4 x hx)⟩
  · rintro ⟨p1, p2, p3, p4, p5, p6⟩
    have hr : hright h = true := by
      unfold hright
      simp only [Bool.and_eq_true, decide_eq_true_eq]
      exact ⟨p1, ⟨⟨p2.1, p3.1⟩, p4⟩, p5⟩
    rw [tell, hr, (smlB_iff p2.1 p2.2.1).2 p2, (smlB_iff p3.1 p3.2.1).2 p3, Bool.true_and, Bool.true_and, Bool.true_and]
    exact List.all_eq_true.2 fun x hx => one_len.2 (p6 x hx)
theorem hkT_lns {h : Hk} (e : tell h = true) (r : List UInt8) : lns (hkT h ++ r) = hkL h ++ lns r := by
  obtain ⟨_, p2, p3, _, _, p6⟩ := tell_iff.1 e
  rw [hkT, List.append_assoc, head_lns p2 p3, linesT_lns _ _ p6]
  rfl
theorem hksT_lns : ∀ (l : List Hk) (r : List UInt8), l.all tell = true → lns ((l.map hkT).flatten ++ r) = (l.map hkL).flatten ++ lns r
  | [], r, _ => rfl
  | h :: l, r, e => by
    rw [List.all_cons, Bool.and_eq_true] at e
    simp only [List.map_cons, List.flatten_cons, List.append_assoc]
    rw [hkT_lns e.1, hksT_lns l r e.2]
theorem prt_lns {l : List Hk} (e : l.all tell = true) : lns (prt l) = (l.map hkL).flatten := by
  have := hksT_lns l [] e
  rw [prt, if_pos e]
  simpa [lns] using this
end Go.Proofs.YtnehgogajghefaaGreatDoor.Un
namespace Go.Proofs.YtnehgogajghefaaGreatDoor.Un
open Go Df Li Hu

theorem okF_snoc : ∀ (l : Ls) (p : Bool) (x : List UInt8), okF p (l ++ [x]) = (okF p l && (decide (sg x = 32 ∨ sg x = 45 ∨ sg x = 43) && !(decide (sg x = 45) && (match l.getLast? with | none => p | some y => decide (sg y = 43)))))
  | [], p, x => by simp [okF]
  | [y], p, x => by simp [okF]
  | y :: z :: l, p, x => by
    have ih := okF_snoc (z :: l) (decide (sg y = 43)) x
    have e1 : okF p (y :: z :: l ++ [x]) = ((decide (sg y = 32 ∨ sg y = 45 ∨ sg y = 43) && !(decide (sg y = 45) && p)) && okF (decide (sg y = 43)) (z :: l ++ [x])) := rfl
    have e2 : okF p (y :: z :: l) = ((decide (sg y = 32 ∨ sg y = 45 ∨ sg y = 43) && !(decide (sg y = 45) && p)) && okF (decide (sg y = 43)) (z :: l)) := rfl
    rw [e1, e2, ih, Bool.and_assoc, List.getLast?_cons_cons]
    cases hq : (z :: l).getLast? with
    | none => simp at hq
    | some u => simp only [Bool.and_assoc]
theorem sg_snoc {y : List UInt8} (b : UInt8) (h : y ≠ []) : sg (y ++ [b]) = sg y := by
  cases y with
  | nil => exact absurd rfl h
  | cons c y => rfl
theorem head_sg (a an b bn : Int) : sg (headT a an b bn) = 64 := rfl
theorem hd_mark : hd markB = none := by
  cases h : hd markB with
  | none => rfl
  | some k =>
    obtain ⟨_, _, _, e⟩ := hd_some h
    have := congrArg sg e
    rw [head_sg] at this
    exact absurd this (by decide)
theorem suffix_end (y : List UInt8) (b : UInt8) : Lib.hasSuffix (y ++ [b]) [10] = (b == 10) := by
  unfold Lib.hasSuffix
  rw [Bool.eq_iff_iff]
  constructor
  · intro h
    obtain ⟨t, e⟩ := List.isSuffixOf_iff_suffix.1 h
    have h2 := congrArg List.getLast? e
    simp at h2
    simp [h2]
  · intro h
    obtain rfl : b = 10 := by simpa using h
    exact List.isSuffixOf_iff_suffix.2 (List.suffix_append _ _)
theorem suffix_nil : Lib.hasSuffix [] [10] = false := by decide
theorem prefix_sg (y : List UInt8) : Lib.hasPrefix y [43] = decide (sg y = 43) := by
  cases y with
  | nil => decide
  | cons c y =>
    have e : Lib.hasPrefix (c :: y) [43] = (43 == c) := by simp [Lib.hasPrefix, List.isPrefixOf]
    rw [e]
    show (43 == c) = decide (c = 43)
    rw [Bool.eq_iff_iff, beq_iff_eq, decide_eq_true_iff]
    exact eq_comm
/-- a line's sides are those that its sign tells -/
theorem sds_many (x : List UInt8) (h : sg x = 32 ∨ sg x = 45 ∨ sg x = 43) : (sds x).1 = (many 45 [x] : Int) ∧ (sds x).2 = (many 43 [x] : Int) ∧ (sds x).1 + (sds x).2 ≠ 0 ∧ 0 ≤ (sds x).1 ∧ 0 ≤ (sds x).2 := by
  unfold sds
  rcases h with h | h | h <;> simp [h, many]
theorem sds_no (x : List UInt8) (h : ¬ (sg x = 32 ∨ sg x = 45 ∨ sg x = 43)) : sds x = (0, 0) := by
  simp only [not_or] at h
  unfold sds
  rw [if_neg h.1, if_neg h.2.1, if_neg h.2.2]
theorem many_one (s : UInt8) (x y : List UInt8) (h : sg x = sg y) : many s [x] = many s [y] := by simp [many, h]

/-- what a reader holds behind the lines ls -/
structure Inv1 (s : St) (e : Hk) (V : List Hk) (ls : Ls) : Prop where
  rv : s.rv = e :: V
  told : ∀ h ∈ V, tell h = true
  a : Sml e.a e.an
  b : Sml e.b e.bn
  ok : okF false e.lines = true
  one : ∀ x ∈ e.lines, lns x = [x]
  old : (many 45 e.lines : Int) + s.old = e.an
  new : (many 43 e.lines : Int) + s.fresh = e.bn
  o0 : 0 ≤ s.old
  f0 : 0 ≤ s.fresh
  ls : ls = (V.reverse.map hkL).flatten ++ hkL e
def Inv (s : St) (ls : Ls) : Prop := (s.rv = [] ∧ ls = [] ∧ s.old = 0 ∧ s.fresh = 0) ∨ ∃ e V, Inv1 s e V ls
theorem Inv1.tell {s : St} {e : Hk} {V : List Hk} {ls : Ls} (h : Inv1 s e V ls) (h1 : s.old = 0) (h2 : s.fresh = 0) : tell e = true := by
  have h3 := h.old
  have h4 := h.new
  exact tell_iff.2 ⟨h.ok, h.a, h.b, by omega, by omega, h.one⟩
theorem hkL_snoc (a an b bn : Int) (l : Ls) (x : List UInt8) : hkL ⟨a, an, b, bn, l ++ [x]⟩ = hkL ⟨a, an, b, bn, l⟩ ++ lineL x := by
  simp [hkL]
theorem noEnd_inv {s s' : St} {e : Hk} {V : List Hk} {ls : Ls} {x : List UInt8} (h : Inv1 s e V ls) (hs : noEnd s x = some s') : ∃ e', Inv1 s' e' V (ls ++ [x]) ∧ s'.old = s.old ∧ s'.fresh = s.fresh := by
  unfold noEnd at hs
  rw [h.rv] at hs
  simp only at hs
  split at hs
  · rename_i hc
    obtain ⟨rfl, hsf⟩ := hc
    injection hs with hs
    subst hs
    have hne : e.lines ≠ [] := fun hn => by rw [ahd, hn] at hsf; exact absurd hsf (by decide)
    obtain ⟨L, y, hL⟩ : ∃ L y, e.lines = L ++ [y] := ⟨_, _, (List.dropLast_concat_getLast hne).symm⟩
    have hah : ahd (e :: V) = y := by simp [ahd, hL]
    rw [hah] at hsf ⊢
    have hy := h.one y (by rw [hL]; simp)
    obtain ⟨z, b, rfl, hz⟩ := one_parts hy
    rw [suffix_end] at hsf
    obtain rfl : b = 10 := by simpa using hsf
    have hok := h.ok
    rw [hL, okF_snoc, Bool.and_eq_true, Bool.and_eq_true, decide_eq_true_iff] at hok
    have hzn : z ≠ [] := by
      rintro rfl
      have := hok.2.1
      revert this
      decide
    have hsg := sg_snoc 10 hzn
    have hd : (z ++ [10]).dropLast = z := by simp
    rw [hd, hL, List.dropLast_concat]
    obtain ⟨z', c, rfl⟩ : ∃ z' c, z = z' ++ [c] := ⟨_, _, (List.dropLast_concat_getLast hzn).symm⟩
    have hz1 : lns (z' ++ [c]) = [z' ++ [c]] := lns_one z' c (fun hm => hz (List.mem_append_left _ hm))
    have hcl : closed (z' ++ [c]) = false := by
      rw [closed_snoc]
      have : c ≠ 10 := fun e => hz (by rw [e]; simp)
      simpa using this
    have hmn : ∀ s : UInt8, many s (L ++ [z' ++ [c]]) = many s e.lines := fun s => by
      rw [hL, many_append, many_append, many_one s (z' ++ [c] ++ [10]) (z' ++ [c]) hsg]
    refine ⟨⟨e.a, e.an, e.b, e.bn, L ++ [z' ++ [c]]⟩, ⟨rfl, h.told, h.a, h.b, ?_, fun x hx => ?_, ?_, ?_, h.o0, h.f0, ?_⟩, rfl, rfl⟩
    · rw [okF_snoc, Bool.and_eq_true, Bool.and_eq_true, decide_eq_true_iff, ← hsg]
      exact hok
    · rcases List.mem_append.1 hx with hx | hx
      · exact h.one x (by rw [hL]; exact List.mem_append_left _ hx)
      · rw [List.mem_singleton.1 hx]; exact hz1
    · show (many 45 (L ++ [z' ++ [c]]) : Int) + s.old = e.an
      rw [hmn]; exact h.old
    · show (many 43 (L ++ [z' ++ [c]]) : Int) + s.fresh = e.bn
      rw [hmn]; exact h.new
    · have he : hkL e = hkL ⟨e.a, e.an, e.b, e.bn, L⟩ ++ [z' ++ [c] ++ [10]] := by
        have h1 : e = ⟨e.a, e.an, e.b, e.bn, L ++ [z' ++ [c] ++ [10]]⟩ := by rw [← hL]
        have h2 : lineL (z' ++ [c] ++ [10]) = [z' ++ [c] ++ [10]] := by rw [lineL, if_pos (by rw [closed_snoc]; rfl)]
        rw [h1, hkL_snoc, h2]
      have h2 : lineL (z' ++ [c]) = [z' ++ [c] ++ [10], markB] := by rw [lineL, if_neg (by rw [hcl]; simp)]
      rw [h.ls, he, hkL_snoc, h2]
      simp
  · cases hs
theorem inv_step {s s' : St} {ls : Ls} {x : List UInt8} (h : Inv s ls) (hx : lns x = [x]) (hs : step s x = some s') : Inv s' (ls ++ [x]) := by
  unfold step at hs
  split at hs
  · rename_i hw
    unfold stepH at hs
    split at hs
    · rename_i k hk
      injection hs with hs
      subst hs
      obtain ⟨k1, k2, k3, k4⟩ := hd_some hk
      refine .inr ⟨k, s.rv, rfl, ?_, k2, k3, by rw [k1]; rfl, by rw [k1]; simp, by rw [k1]; simp [many], by rw [k1]; simp [many], k2.2.1, k3.2.1, ?_⟩
      · rcases h with ⟨h1, _⟩ | ⟨e, V, h1⟩
        · rw [h1]; simp
        · rw [h1.rv]
          intro g hg
          rcases List.mem_cons.1 hg with hg | hg
          · rw [hg]; exact h1.tell hw.1 hw.2
          · exact h1.told g hg
      · have e1 : hkL k = [x] := by rw [hkL, k1, ← k4]; rfl
        rw [e1]
        rcases h with ⟨h1, h2, _⟩ | ⟨e, V, h1⟩
        · rw [h1, h2]; rfl
        · rw [h1.rv, h1.ls]; simp
    · rcases h with ⟨h1, _⟩ | ⟨e, V, h1⟩
      · unfold noEnd at hs
        rw [h1] at hs
        cases hs
      · obtain ⟨e', h2, _⟩ := noEnd_inv h1 hs
        exact .inr ⟨e', V, h2⟩
  · rename_i hw
    unfold stepL at hs
    split at hs
    · rcases h with ⟨h1, _⟩ | ⟨e, V, h1⟩
      · unfold noEnd at hs
        rw [h1] at hs
        cases hs
      · obtain ⟨e', h2, _⟩ := noEnd_inv h1 hs
        exact .inr ⟨e', V, h2⟩
    · rename_i hsd
      rcases h with ⟨_, _, h3, h4⟩ | ⟨e, V, h1⟩
      · exact absurd ⟨h3, h4⟩ hw
      · rw [h1.rv] at hs
        simp only at hs
        split at hs
        · rename_i hc
          obtain ⟨c1, c2, c3, c4⟩ := hc
          injection hs with hs
          subst hs
          have hsg : sg x = 32 ∨ sg x = 45 ∨ sg x = 43 := by
            refine Classical.byContradiction fun hn => hsd ?_
            rw [sds_no x hn]; rfl
          obtain ⟨d1, d2, _, d4, d5⟩ := sds_many x hsg
          have h5 := h1.old
          have h6 := h1.new
          have m1 := many_append 45 e.lines [x]
          have m2 := many_append 43 e.lines [x]
          refine .inr ⟨⟨e.a, e.an, e.b, e.bn, e.lines ++ [x]⟩, V, rfl, h1.told, h1.a, h1.b, ?_, fun y hy => ?_, ?_, ?_, ?_, ?_, ?_⟩
          · rw [okF_snoc, Bool.and_eq_true, Bool.and_eq_true, decide_eq_true_iff]
            refine ⟨h1.ok, hsg, ?_⟩
            rw [ahd] at c2
            cases hq : e.lines.getLast? with
            | none => simp
            | some y =>
              rw [hq] at c2
              by_cases h1 : sg x = 45
              · by_cases h2 : sg y = 43
                · exact absurd ⟨h1, h2⟩ c2
                · simp [h2]
              · simp [h1]
          · rcases List.mem_append.1 hy with hy | hy
            · exact h1.one y hy
            · rw [List.mem_singleton.1 hy]; exact hx
          · show (many 45 (e.lines ++ [x]) : Int) + (s.old - (sds x).1) = e.an
            rw [m1]; omega
          · show (many 43 (e.lines ++ [x]) : Int) + (s.fresh - (sds x).2) = e.bn
            rw [m2]; omega
          · show 0 ≤ s.old - (sds x).1
            omega
          · show 0 ≤ s.fresh - (sds x).2
            omega
          · have h2 : lineL x = [x] := by rw [lineL, if_pos c1]
            rw [hkL_snoc, h2, h1.ls, List.append_assoc]
        · cases hs
theorem inv_run : ∀ (l : Ls) (s s' : St) (ls : Ls) (n m : Nat), Inv s ls → (∀ x ∈ l, lns x = [x]) → run s l n = (m, some s') → Inv s' (ls ++ l)
  | [], s, s', ls, n, m, h, _, hr => by
    rw [run] at hr
    injection hr with _ hr
    injection hr with hr
    rw [← hr, List.append_nil]; exact h
  | x :: l, s, s', ls, n, m, h, hl, hr => by
    rw [run] at hr
    cases hq : step s x with
    | none => rw [hq] at hr; simp at hr
    | some s2 =>
      rw [hq] at hr
      have := inv_run l s2 s' (ls ++ [x]) _ _ (inv_step h (hl x List.mem_cons_self) hq) (fun y hy => hl y (List.mem_cons_of_mem _ hy)) hr
      simpa using this
theorem lns_ones : ∀ t : List UInt8, ∀ x ∈ lns t, lns x = [x]
  | [], x, h => by cases h
  | b :: r, x, h => by
    have ih := lns_ones r
    rw [lns_cons] at h
    by_cases hb : b = 10
    · rw [if_pos hb] at h
      rcases List.mem_cons.1 h with h | h
      · rw [h, hb]; rfl
      · exact ih x h
    · rw [if_neg hb] at h
      cases hq : lns r with
      | nil =>
        rw [hq] at h
        obtain rfl : x = [b] := by simpa using h
        simp [lns, hb]
      | cons u q =>
        rw [hq] at h ih
        rcases List.mem_cons.1 h with h | h
        · have h1 := ih u List.mem_cons_self
          rw [h, lns_cons, if_neg hb, h1]
        · exact ih x (List.mem_cons_of_mem _ h)
/-- what is read, printed, is the text again -/
theorem parse_some {t : List UInt8} {l : List Hk} {n : Nat} (h : parse t = (l, n, 0)) : n = 0 ∧ l.all tell = true ∧ prt l = t := by
  unfold parse fin at h
  split at h
  · cases h
  · rename_i s hs
    split at h
    · rename_i hw
      injection h with h1 h2
      injection h2 with h2 _
      have hi := inv_run (lns t) ⟨[], 0, 0⟩ s [] 0 _ (.inl ⟨rfl, rfl, rfl, rfl⟩) (lns_ones t) (Prod.ext rfl hs)
      rw [List.nil_append] at hi
      have key : l.all tell = true ∧ lns t = (l.map hkL).flatten := by
        rcases hi with ⟨h3, h4, _⟩ | ⟨e, V, h3⟩
        · rw [← h1, h3, h4]; exact ⟨rfl, rfl⟩
        · rw [← h1, h3.rv]
          constructor
          · rw [List.all_eq_true]
            intro g hg
            rcases List.mem_cons.1 (List.mem_reverse.1 hg) with hg | hg
            · rw [hg]; exact h3.tell hw.1 hw.2
            · exact h3.told g hg
          · rw [h3.ls]; simp
      refine ⟨h2.symm, key.1, ?_⟩
      rw [prt, if_pos key.1, ← hks_flat, ← key.2, lns_flat]
    · cases h
set_option maxHeartbeats 400000 in
theorem step_mark (a an b bn : Int) (L1 : Ls) (x : List UInt8) (V : List Hk) (o f : Int) : step ⟨⟨a, an, b, bn, L1 ++ [x ++ [10]]⟩ :: V, o, f⟩ markB = some ⟨⟨a, an, b, bn, L1 ++ [x]⟩ :: V, o, f⟩ := by
  have hn : noEnd ⟨⟨a, an, b, bn, L1 ++ [x ++ [10]]⟩ :: V, o, f⟩ markB = some ⟨⟨a, an, b, bn, L1 ++ [x]⟩ :: V, o, f⟩ := by
    have ha : ahd (⟨a, an, b, bn, L1 ++ [x ++ [10]]⟩ :: V) = x ++ [10] := by simp [ahd]
    have hc : markB = markB ∧ Lib.hasSuffix (ahd (⟨a, an, b, bn, L1 ++ [x ++ [10]]⟩ :: V)) [10] = true := ⟨rfl, by rw [ha, suffix_end]; rfl⟩
    have h1 : noEnd ⟨⟨a, an, b, bn, L1 ++ [x ++ [10]]⟩ :: V, o, f⟩ markB = some ⟨⟨a, an, b, bn, (L1 ++ [x ++ [10]]).dropLast ++ [(ahd (⟨a, an, b, bn, L1 ++ [x ++ [10]]⟩ :: V)).dropLast]⟩ :: V, o, f⟩ := if_pos hc
    rw [h1, ha, List.dropLast_concat, List.dropLast_concat]
  by_cases hw : o = 0 ∧ f = 0
  · have h3 : stepH ⟨⟨a, an, b, bn, L1 ++ [x ++ [10]]⟩ :: V, o, f⟩ markB = noEnd ⟨⟨a, an, b, bn, L1 ++ [x ++ [10]]⟩ :: V, o, f⟩ markB := by
      unfold stepH
      rw [hd_mark]
    rw [step, if_pos hw, h3, hn]
  · have h0 : sds markB = (0, 0) := sds_no markB (by decide)
    have h2 : (sds markB).1 + (sds markB).2 = 0 := by rw [h0]; rfl
    rw [step, if_neg hw, stepL, if_pos h2]; exact hn
theorem run_some {s s' : St} {x : List UInt8} (h : step s x = some s') (l : Ls) (n : Nat) : run s (x :: l) n = run s' l (n + 1) := by rw [run, h]
/-- a hunk's lines are read -/
theorem run_lines (a an b bn : Int) (V : List Hk) (l : Ls) : ∀ (L2 L1 : Ls) (o f : Int) (n : Nat), okF false (L1 ++ L2) = true → (∀ x ∈ L2, lns x = [x]) → o = many 45 L2 → f = many 43 L2 →
    run ⟨⟨a, an, b, bn, L1⟩ :: V, o, f⟩ ((L2.map lineL).flatten ++ l) n = run ⟨⟨a, an, b, bn, L1 ++ L2⟩ :: V, 0, 0⟩ l (n + (L2.map lineL).flatten.length)
  | [], L1, o, f, n, _, _, ho, hf => by
    simp [many] at ho hf
    subst ho hf
    simp
  | x :: L2, L1, o, f, n, hok, hone, ho, hf => by
    have hok' : okF false ((L1 ++ [x]) ++ L2) = true := by simpa using hok
    have hx := hone x List.mem_cons_self
    have hok1 : okF false (L1 ++ [x]) = true := by
      have : ∀ (l r : Ls) (p : Bool), okF p (l ++ r) = true → okF p l = true := by
        intro l
        induction l with
        | nil => intro r p _; rfl
        | cons y l ih =>
          intro r p h
          rw [List.cons_append, okF, Bool.and_eq_true] at h
          rw [okF, Bool.and_eq_true]
          exact ⟨h.1, ih r _ h.2⟩
      exact this _ _ _ hok'
    rw [okF_snoc, Bool.and_eq_true, Bool.and_eq_true, decide_eq_true_iff] at hok1
    obtain ⟨_, hsg, hbeh⟩ := hok1
    have h45 : many 45 (x :: L2) = many 45 [x] + many 45 L2 := many_append 45 [x] L2
    have h43 : many 43 (x :: L2) = many 43 [x] + many 43 L2 := many_append 43 [x] L2
    have ih := run_lines a an b bn V l L2 (L1 ++ [x]) (many 45 L2) (many 43 L2)
    -- the line with its end is taken
    have key : ∀ (y : List UInt8) (n : Nat) (r : Ls), closed y = true → sg y = sg x → run ⟨⟨a, an, b, bn, L1⟩ :: V, o, f⟩ (y :: r) n = run ⟨⟨a, an, b, bn, L1 ++ [y]⟩ :: V, many 45 L2, many 43 L2⟩ r (n + 1) := by
      intro y n r hy hsy
      have hsgy : sg y = 32 ∨ sg y = 45 ∨ sg y = 43 := by rw [hsy]; exact hsg
      obtain ⟨d1, d2, d3, d4, d5⟩ := sds_many y hsgy
      rw [many_one 45 y x hsy] at d1
      rw [many_one 43 y x hsy] at d2
      have hw : ¬ (o = 0 ∧ f = 0) := by omega
      have hst : step ⟨⟨a, an, b, bn, L1⟩ :: V, o, f⟩ y = some ⟨⟨a, an, b, bn, L1 ++ [y]⟩ :: V, many 45 L2, many 43 L2⟩ := by
        rw [step, if_neg hw, stepL, if_neg d3]
        simp only
        rw [if_pos]
        · have e1 : o - (sds y).1 = many 45 L2 := by omega
          have e2 : f - (sds y).2 = many 43 L2 := by omega
          rw [e1, e2]
        · refine ⟨hy, ?_, by omega, by omega⟩
          rw [hsy, ahd]
          intro hc
          simp only at hc
          cases hq : L1.getLast? with
          | none => rw [hq] at hc; exact absurd hc.2 (by decide)
          | some z => rw [hq] at hc hbeh; simp [hc.1] at hbeh; exact hbeh (by simpa using hc.2)
      exact run_some hst r n
    simp only [List.map_cons, List.flatten_cons, List.append_assoc]
    cases hc : closed x with
    | true =>
      have h2 : lineL x = [x] := by rw [lineL, if_pos hc]
      rw [h2, List.singleton_append, key x n _ hc rfl, ih (n + 1) hok' (fun y hy => hone y (List.mem_cons_of_mem _ hy)) rfl rfl]
      simp [Nat.add_assoc, Nat.add_comm 1]
    | false =>
      have h2 : lineL x = [x ++ [10], markB] := by rw [lineL, if_neg (by rw [hc]; simp)]
      have hxn := one_ne hx
      rw [h2, List.cons_append, key (x ++ [10]) n _ (by rw [closed_snoc]; rfl) (sg_snoc 10 hxn), List.cons_append, List.nil_append]
      rw [run_some (step_mark a an b bn L1 x V (many 45 L2) (many 43 L2)), ih (n + 1 + 1) hok' (fun y hy => hone y (List.mem_cons_of_mem _ hy)) rfl rfl]
      have e1 : (L1 ++ [x]) ++ L2 = L1 ++ x :: L2 := by rw [List.append_assoc]; rfl
      have e2 : n + 1 + 1 + (L2.map lineL).flatten.length = n + ((x ++ [10]) :: markB :: (L2.map lineL).flatten).length := by rw [List.length_cons, List.length_cons]; omega
      rw [e1, e2, List.cons_append, List.cons_append, List.nil_append]
theorem step_head {s : St} {x : List UInt8} {h : Hk} (h0 : s.old = 0) (h1 : s.fresh = 0) (hh : hd x = some h) : step s x = some ⟨h :: s.rv, h.an, h.bn⟩ := by
  unfold step stepH
  rw [if_pos ⟨h0, h1⟩, hh]
theorem run_hk {e : Hk} (h : tell e = true) (V : List Hk) (l : Ls) (n : Nat) : run ⟨V, 0, 0⟩ (hkL e ++ l) n = run ⟨e :: V, 0, 0⟩ l (n + (hkL e).length) := by
  obtain ⟨p1, p2, p3, p4, p5, p6⟩ := tell_iff.1 h
  have hst : step ⟨V, 0, 0⟩ (headT e.a e.an e.b e.bn) = some ⟨⟨e.a, e.an, e.b, e.bn, []⟩ :: V, e.an, e.bn⟩ := by
    exact step_head (s := ⟨V, 0, 0⟩) rfl rfl (hd_head p2 p3)
  rw [hkL, List.cons_append, run_some hst, run_lines e.a e.an e.b e.bn V l e.lines [] e.an e.bn (n + 1) (by simpa using p1) p6 p4 p5]
  simp [Nat.add_assoc, Nat.add_comm 1]
theorem run_hks : ∀ (L : List Hk) (V : List Hk) (l : Ls) (n : Nat), L.all tell = true → run ⟨V, 0, 0⟩ ((L.map hkL).flatten ++ l) n = run ⟨L.reverse ++ V, 0, 0⟩ l (n + (L.map hkL).flatten.length)
  | [], V, l, n, _ => by simp
  | e :: L, V, l, n, h => by
    rw [List.all_cons, Bool.and_eq_true] at h
    simp only [List.map_cons, List.flatten_cons, List.append_assoc]
    rw [run_hk h.1, run_hks L (e :: V) l _ h.2]
    simp [Nat.add_assoc]
/-- what is printed is read -/
theorem parse_prt {l : List Hk} (h : l.all tell = true) : parse (prt l) = (l, 0, 0) := by
  have h1 := run_hks l [] [] 0 h
  rw [List.append_nil] at h1
  rw [parse, prt_lns h, h1, List.append_nil, run, fin]
  simp
end Go.Proofs.YtnehgogajghefaaGreatDoor.Un
