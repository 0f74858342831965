/-
  Longest common subsequences, edits, and the way between two lists: on lists alone.
-/

namespace Go.Proofs.Ytfmmececocilhaa.Df

/-- how long the longest common subsequence is -/
def lcs {α : Type} [DecidableEq α] : List α → List α → Nat
  | [], _ => 0
  | _ :: _, [] => 0
  | a :: x, b :: y => if a = b then lcs x y + 1 else max (lcs x (b :: y)) (lcs (a :: x) y)
termination_by x y => x.length + y.length

/-- two subsequences of one list have much in common -/
theorem sub_meet {α : Type} : ∀ (b s t : List α), s.Sublist b → t.Sublist b → ∃ u : List α, u.Sublist s ∧ u.Sublist t ∧ s.length + t.length ≤ u.length + b.length
  | [], s, t, h1, h2 => by
    rw [List.sublist_nil.1 h1, List.sublist_nil.1 h2]
    exact ⟨[], List.nil_sublist _, List.nil_sublist _, by simp⟩
  | c :: b, s, t, h1, h2 => by
    rcases List.sublist_cons_iff.1 h1 with k1 | ⟨s', rfl, k1⟩
    · rcases List.sublist_cons_iff.1 h2 with k2 | ⟨t', rfl, k2⟩
      · obtain ⟨u, a1, a2, a3⟩ := sub_meet b s t k1 k2
        exact ⟨u, a1, a2, by simp; omega⟩
      · obtain ⟨u, a1, a2, a3⟩ := sub_meet b s t' k1 k2
        exact ⟨u, a1, a2.cons c, by simp; omega⟩
    · rcases List.sublist_cons_iff.1 h2 with k2 | ⟨t', rfl, k2⟩
      · obtain ⟨u, a1, a2, a3⟩ := sub_meet b s' t k1 k2
        exact ⟨u, a1.cons c, a2, by simp; omega⟩
      · obtain ⟨u, a1, a2, a3⟩ := sub_meet b s' t' k1 k2
        exact ⟨c :: u, a1.cons_cons c, a2.cons_cons c, by simp; omega⟩
section
variable {α : Type} [DecidableEq α]
theorem lcs_nil_left (y : List α) : lcs [] y = 0 := by rw [lcs]
theorem lcs_nil_right (x : List α) : lcs x [] = 0 := by
  cases x with
  | nil => rw [lcs]
  | cons a x => rw [lcs]
theorem lcs_cons (a b : α) (x y : List α) : lcs (a :: x) (b :: y) = if a = b then lcs x y + 1 else max (lcs x (b :: y)) (lcs (a :: x) y) := by rw [lcs]
/-- it is reached -/
theorem lcs_sub : ∀ (n : Nat) (x y : List α), x.length + y.length ≤ n → ∃ s : List α, s.Sublist x ∧ s.Sublist y ∧ s.length = lcs x y
  | _, [], y, _ => ⟨[], List.nil_sublist _, List.nil_sublist _, by rw [lcs_nil_left]; rfl⟩
  | _, x, [], _ => ⟨[], List.nil_sublist _, List.nil_sublist _, by rw [lcs_nil_right]; rfl⟩
  | 0, a :: x, b :: y, h => by simp at h
  | n + 1, a :: x, b :: y, h => by
    simp only [List.length_cons] at h
    rw [lcs_cons]
    by_cases e : a = b
    · obtain ⟨s, h1, h2, h3⟩ := lcs_sub n x y (by omega)
      rw [if_pos e]
      subst e
      exact ⟨a :: s, h1.cons_cons a, h2.cons_cons a, by simp [h3]⟩
    · rw [if_neg e]
      obtain ⟨s, h1, h2, h3⟩ := lcs_sub n x (b :: y) (by simp; omega)
      obtain ⟨t, k1, k2, k3⟩ := lcs_sub n (a :: x) y (by simp; omega)
      rcases Nat.le_total (lcs (a :: x) y) (lcs x (b :: y)) with hl | hl
      · exact ⟨s, h1.cons a, h2, by omega⟩
      · exact ⟨t, k1, k2.cons b, by omega⟩
/-- and never passed -/
theorem lcs_ge : ∀ (n : Nat) (x y s : List α), x.length + y.length ≤ n → s.Sublist x → s.Sublist y → s.length ≤ lcs x y
  | _, [], y, s, _, h1, _ => by rw [List.sublist_nil.1 h1]; exact Nat.zero_le _
  | _, x, [], s, _, _, h2 => by rw [List.sublist_nil.1 h2]; exact Nat.zero_le _
  | 0, a :: x, b :: y, _, h, _, _ => by simp at h
  | n + 1, a :: x, b :: y, s, h, h1, h2 => by
    simp only [List.length_cons] at h
    rw [lcs_cons]
    by_cases e : a = b
    · rw [if_pos e]
      subst e
      cases s with
      | nil => exact Nat.zero_le _
      | cons c s =>
        have k1 : s.Sublist x := by
          rcases List.sublist_cons_iff.1 h1 with h | ⟨r, hr, hs⟩
          · exact (List.sublist_cons_self c s).trans h
          · cases hr; exact hs
        have k2 : s.Sublist y := by
          rcases List.sublist_cons_iff.1 h2 with h | ⟨r, hr, hs⟩
          · exact (List.sublist_cons_self c s).trans h
          · cases hr; exact hs
        have := lcs_ge n x y s (by omega) k1 k2
        simp; omega
    · rw [if_neg e]
      rcases List.sublist_cons_iff.1 h1 with k1 | ⟨r, rfl, k1⟩
      · have := lcs_ge n x (b :: y) s (by simp; omega) k1 h2
        omega
      · rcases List.sublist_cons_iff.1 h2 with k2 | ⟨r', hr, k2⟩
        · have := lcs_ge n (a :: x) y (a :: r) (by simp; omega) h1 k2
          omega
        · injection hr with h3 _
          exact absurd h3 e
theorem lcs_le_iff {x y : List α} {n : Nat} (h : ∀ s : List α, s.Sublist x → s.Sublist y → s.length ≤ n) : lcs x y ≤ n := by
  obtain ⟨s, h1, h2, h3⟩ := lcs_sub _ x y (Nat.le_refl _)
  rw [← h3]; exact h s h1 h2
theorem le_lcs {x y s : List α} (h1 : s.Sublist x) (h2 : s.Sublist y) : s.length ≤ lcs x y := lcs_ge _ x y s (Nat.le_refl _) h1 h2
theorem lcs_comm (x y : List α) : lcs x y = lcs y x :=
  Nat.le_antisymm (lcs_le_iff fun _ h1 h2 => le_lcs h2 h1) (lcs_le_iff fun _ h1 h2 => le_lcs h2 h1)
theorem lcs_rev_le (x y : List α) : lcs x y ≤ lcs x.reverse y.reverse :=
  lcs_le_iff fun s h1 h2 => by
    have := le_lcs (List.reverse_sublist.2 h1) (List.reverse_sublist.2 h2)
    rwa [List.length_reverse] at this
theorem lcs_rev (x y : List α) : lcs x.reverse y.reverse = lcs x y :=
  Nat.le_antisymm (by have := lcs_rev_le x.reverse y.reverse; rwa [List.reverse_reverse, List.reverse_reverse] at this) (lcs_rev_le x y)
theorem lcs_snoc (a b : α) (x y : List α) : lcs (x ++ [a]) (y ++ [b]) = if a = b then lcs x y + 1 else max (lcs x (y ++ [b])) (lcs (x ++ [a]) y) := by
  rw [← lcs_rev, List.reverse_append, List.reverse_append]
  simp only [List.reverse_cons, List.reverse_nil, List.nil_append, List.singleton_append]
  rw [lcs_cons, lcs_rev]
  rw [← lcs_rev x (y ++ [b]), ← lcs_rev (x ++ [a]) y, List.reverse_append, List.reverse_append]
  simp only [List.reverse_cons, List.reverse_nil, List.nil_append, List.singleton_append]
theorem lcs_front : ∀ (p x y : List α), lcs (p ++ x) (p ++ y) = p.length + lcs x y
  | [], x, y => by simp
  | a :: p, x, y => by
    rw [List.cons_append, List.cons_append, lcs_cons, if_pos rfl, lcs_front p x y]
    simp; omega
theorem lcs_back (s x y : List α) : lcs (x ++ s) (y ++ s) = lcs x y + s.length := by
  rw [← lcs_rev, List.reverse_append, List.reverse_append, lcs_front, lcs_rev, List.length_reverse]
  omega
theorem lcs_self (x : List α) : lcs x x = x.length := by
  have := lcs_front x [] []
  rw [List.append_nil, lcs_nil_left] at this
  omega
theorem lcs_le_left (x y : List α) : lcs x y ≤ x.length := lcs_le_iff fun _ h _ => h.length_le
theorem lcs_le_right (x y : List α) : lcs x y ≤ y.length := lcs_le_iff fun _ _ h => h.length_le
theorem lcs_chain (a b c : List α) : lcs a b + lcs b c ≤ lcs a c + b.length := by
  obtain ⟨s, h1, h2, h3⟩ := lcs_sub _ a b (Nat.le_refl _)
  obtain ⟨t, k1, k2, k3⟩ := lcs_sub _ b c (Nat.le_refl _)
  obtain ⟨u, a1, a2, a3⟩ := sub_meet b s t h2 k1
  have := le_lcs (a1.trans h1) (a2.trans k2)
  omega
end

/-- an edit -/
structure Ed where
  pos : Int
  del : Int
  ins : List (List UInt8)
abbrev Ls := List (List UInt8)
def emit (pos del : Nat) (ins : Ls) : List Ed := if del = 0 ∧ ins = [] then [] else [⟨pos, del, ins⟩]
/-- the way, line by line: behind 'pos' lines of a 'del' have gone, and 'ins' come, since a line stayed last -/
def go : Ls → Ls → Nat → Nat → Ls → List Ed
  | [], [], pos, del, ins => emit pos del ins
  | [], b :: y, pos, del, ins => go [] y pos del (ins ++ [b])
  | _ :: x, [], pos, del, ins => go x [] pos (del + 1) ins
  | a :: x, b :: y, pos, del, ins =>
    if a = b then emit pos del ins ++ go x y (pos + del + 1) 0 []
    else if lcs (a :: x) y ≤ lcs x (b :: y) then go x (b :: y) pos (del + 1) ins else go (a :: x) y pos del (ins ++ [b])
termination_by x y => x.length + y.length
theorem go_nil (pos del : Nat) (ins : Ls) : go [] [] pos del ins = emit pos del ins := by rw [go]
theorem go_come (b : List UInt8) (y : Ls) (pos del : Nat) (ins : Ls) : go [] (b :: y) pos del ins = go [] y pos del (ins ++ [b]) := by rw [go]
theorem go_gone (a : List UInt8) (x : Ls) (pos del : Nat) (ins : Ls) : go (a :: x) [] pos del ins = go x [] pos (del + 1) ins := by rw [go]
theorem go_both (a b : List UInt8) (x y : Ls) (pos del : Nat) (ins : Ls) : go (a :: x) (b :: y) pos del ins =
    if a = b then emit pos del ins ++ go x y (pos + del + 1) 0 []
    else if lcs (a :: x) y ≤ lcs x (b :: y) then go x (b :: y) pos (del + 1) ins else go (a :: x) y pos del (ins ++ [b]) := by rw [go]
theorem go_all_come : ∀ (y : Ls) (pos del : Nat) (ins : Ls), go [] y pos del ins = emit pos del (ins ++ y)
  | [], pos, del, ins => by rw [go_nil, List.append_nil]
  | b :: y, pos, del, ins => by rw [go_come, go_all_come y]; simp
theorem go_all_gone : ∀ (x : Ls) (pos del : Nat) (ins : Ls), go x [] pos del ins = emit pos (del + x.length) ins
  | [], pos, del, ins => by rw [go_nil]; simp
  | a :: x, pos, del, ins => by rw [go_gone, go_all_gone x]; simp; congr 1; omega
/-- one rule for what is in the program's own order -/
theorem go_ind (P : Ls → Ls → Nat → Nat → Ls → List Ed → Prop) (h0 : ∀ pos del ins, P [] [] pos del ins (emit pos del ins))
    (h1 : ∀ b y pos del ins r, P [] y pos del (ins ++ [b]) r → P [] (b :: y) pos del ins r) (h2 : ∀ a x pos del ins r, P x [] pos (del + 1) ins r → P (a :: x) [] pos del ins r)
    (h3 : ∀ a x y pos del ins r, P x y (pos + del + 1) 0 [] r → P (a :: x) (a :: y) pos del ins (emit pos del ins ++ r))
    (h4 : ∀ a b x y pos del ins r, a ≠ b → lcs (a :: x) y ≤ lcs x (b :: y) → P x (b :: y) pos (del + 1) ins r → P (a :: x) (b :: y) pos del ins r)
    (h5 : ∀ a b x y pos del ins r, a ≠ b → ¬ lcs (a :: x) y ≤ lcs x (b :: y) → P (a :: x) y pos del (ins ++ [b]) r → P (a :: x) (b :: y) pos del ins r) :
    ∀ (n : Nat) (x y : Ls) (pos del : Nat) (ins : Ls), x.length + y.length ≤ n → P x y pos del ins (go x y pos del ins)
  | _, [], [], pos, del, ins, _ => by rw [go_nil]; exact h0 _ _ _
  | 0, [], b :: y, pos, del, ins, h => by simp at h
  | n + 1, [], b :: y, pos, del, ins, h => by
    simp only [List.length_cons, List.length_nil] at h
    rw [go_come]; exact h1 _ _ _ _ _ _ (go_ind P h0 h1 h2 h3 h4 h5 n [] y _ _ _ (by simp; omega))
  | 0, a :: x, _, pos, del, ins, h => by simp at h
  | n + 1, a :: x, [], pos, del, ins, h => by
    simp only [List.length_cons, List.length_nil] at h
    rw [go_gone]; exact h2 _ _ _ _ _ _ (go_ind P h0 h1 h2 h3 h4 h5 n x [] _ _ _ (by simp; omega))
  | n + 1, a :: x, b :: y, pos, del, ins, h => by
    simp only [List.length_cons] at h
    rw [go_both]
    split
    · rename_i e
      subst e
      exact h3 _ _ _ _ _ _ _ (go_ind P h0 h1 h2 h3 h4 h5 n x y _ _ _ (by omega))
    · rename_i e
      split
      · rename_i hl
        exact h4 _ _ _ _ _ _ _ _ e hl (go_ind P h0 h1 h2 h3 h4 h5 n x (b :: y) _ _ _ (by simp; omega))
      · rename_i hl
        exact h5 _ _ _ _ _ _ _ _ e hl (go_ind P h0 h1 h2 h3 h4 h5 n (a :: x) y _ _ _ (by simp; omega))

/-- how many lines go and come -/
def size : List Ed → Int
  | [] => 0
  | e :: l => max 0 e.del + e.ins.length + size l
theorem size_append : ∀ l r : List Ed, size (l ++ r) = size l + size r
  | [], r => by simp [size]
  | e :: l, r => by rw [List.cons_append, size, size, size_append l r]; omega
theorem size_emit (pos del : Nat) (ins : Ls) : size (emit pos del ins) = del + ins.length := by
  unfold emit
  split
  · rename_i h; rw [h.1, h.2]; rfl
  · simp [size]
theorem size_go (x y : Ls) (pos del : Nat) (ins : Ls) : size (go x y pos del ins) + 2 * (lcs x y : Int) = x.length + y.length + del + ins.length := by
  refine go_ind (fun x y _ del ins r => size r + 2 * (lcs x y : Int) = x.length + y.length + del + ins.length) ?_ ?_ ?_ ?_ ?_ ?_ _ x y pos del ins (Nat.le_refl _)
  · intro pos del ins; rw [size_emit, lcs_nil_left]; simp
  · intro b y pos del ins r h; rw [lcs_nil_left] at h ⊢; simp at h ⊢; omega
  · intro a x pos del ins r h; rw [lcs_nil_right] at h ⊢; simp at h ⊢; omega
  · intro a x y pos del ins r h; rw [size_append, size_emit, lcs_cons, if_pos rfl]; simp at h ⊢; omega
  · intro a b x y pos del ins r hab hl h; rw [lcs_cons, if_neg hab]; simp at h ⊢; omega
  · intro a b x y pos del ins r hab hl h; rw [lcs_cons, if_neg hab]; simp at h ⊢; omega

/-- are edits right, behind an edit that ends at 'last'? -/
def right (n : Int) : Int → List Ed → Bool
  | _, [] => true
  | last, e :: l => (decide (0 ≤ e.del) && decide (e.del ≠ 0 ∨ e.ins ≠ []) && decide (last < e.pos) && decide (e.pos ≤ n) && decide (e.del ≤ n - e.pos)) && right n (e.pos + e.del) l
theorem right_cons (n last : Int) (e : Ed) (l : List Ed) : right n last (e :: l) = true ↔ (0 ≤ e.del ∧ (e.del ≠ 0 ∨ e.ins ≠ []) ∧ last < e.pos ∧ e.pos ≤ n ∧ e.del ≤ n - e.pos) ∧ right n (e.pos + e.del) l = true := by
  simp only [right, Bool.and_eq_true, decide_eq_true_eq, and_assoc]
theorem right_emit (n last : Int) (pos del : Nat) (ins : Ls) (r : List Ed) (h1 : last < pos) (h2 : (pos + del : Int) ≤ n) (hr : ∀ last' : Int, last' ≤ pos + del → right n last' r = true) : right n last (emit pos del ins ++ r) = true := by
  unfold emit
  split
  · exact hr last (by omega)
  · rename_i h
    rw [List.singleton_append, right_cons]
    refine ⟨⟨by simp, ?_, h1, by simp; omega, by simp; omega⟩, hr _ (by simp)⟩
    by_cases hd : del = 0
    · exact .inr fun e => h ⟨hd, e⟩
    · exact .inl (by simp; exact hd)
theorem right_go (n : Int) (x y : Ls) (pos del : Nat) (ins : Ls) (last : Int) (h1 : last < pos) (h2 : (pos + del + x.length : Int) ≤ n) : right n last (go x y pos del ins) = true := by
  refine go_ind (fun x y pos del ins r => ∀ last : Int, last < pos → (pos + del + x.length : Int) ≤ n → right n last r = true) ?_ ?_ ?_ ?_ ?_ ?_ _ x y pos del ins (Nat.le_refl _) last h1 h2
  · intro pos del ins last h1 h2
    have := right_emit n last pos del ins [] h1 (by simp at h2; omega) (fun _ _ => rfl)
    rwa [List.append_nil] at this
  · intro b y pos del ins r h last h1 h2; exact h last h1 h2
  · intro a x pos del ins r h last h1 h2; exact h last h1 (by simp at h2 ⊢; omega)
  · intro a x y pos del ins r h last h1 h2
    exact right_emit n last pos del ins r h1 (by simp at h2; omega) (fun l' hl => h l' (by omega) (by simp at h2 ⊢; omega))
  · intro a b x y pos del ins r hab hl h last h1 h2; exact h last h1 (by simp at h2 ⊢; omega)
  · intro a b x y pos del ins r hab hl h last h1 h2; exact h last h1 h2

/-- what lines become, from line 'at' on -/
def play (a : Ls) : Nat → List Ed → Ls
  | at_, [] => a.drop at_
  | at_, e :: l => (a.drop at_).take (e.pos.toNat - at_) ++ e.ins ++ play a (e.pos.toNat + e.del.toNat) l
theorem drop_split {α : Type} (a : List α) (i j : Nat) (h : i ≤ j) : a.drop i = (a.drop i).take (j - i) ++ a.drop j := by
  conv => lhs; rw [← List.take_append_drop (j - i) (a.drop i)]
  rw [List.drop_drop]
  congr 2
  omega
theorem play_go (a s : Ls) (x y : Ls) (pos del : Nat) (ins : Ls) (at_ : Nat) (h1 : at_ ≤ pos) (h2 : a.drop (pos + del) = x ++ s) :
    play a at_ (go x y pos del ins) = (a.drop at_).take (pos - at_) ++ ins ++ y ++ s := by
  refine go_ind (fun x y pos del ins r => ∀ at_ : Nat, at_ ≤ pos → a.drop (pos + del) = x ++ s → play a at_ r = (a.drop at_).take (pos - at_) ++ ins ++ y ++ s) ?_ ?_ ?_ ?_ ?_ ?_ _ x y pos del ins (Nat.le_refl _) at_ h1 h2
  · intro pos del ins at_ h1 h2
    unfold emit
    split
    · rename_i h
      rw [h.1, Nat.add_zero, List.nil_append] at h2
      rw [h.2, play]
      simp only [List.append_nil]
      rw [← h2]
      exact drop_split a at_ pos h1
    · simp only [play, Int.toNat_natCast, List.append_nil]
      rw [h2]; simp
  · intro b y pos del ins r h at_ h1 h2
    rw [h at_ h1 h2]; simp
  · intro a' x pos del ins r h at_ h1 h2
    refine h at_ h1 ?_
    rw [show pos + (del + 1) = pos + del + 1 from by omega, ← List.drop_drop, h2]
    rfl
  · intro c x y pos del ins r h at_ h1 h2
    have h3 : a.drop (pos + del + 1) = x ++ s := by rw [← List.drop_drop, h2]; rfl
    have h4 : (a.drop (pos + del)).take 1 = [c] := by rw [h2]; simp
    unfold emit
    split
    · rename_i hd
      rw [List.nil_append, h at_ (by omega) (by simpa using h3), hd.1, hd.2]
      have h5 : pos + 0 + 1 - at_ = pos - at_ + 1 := by omega
      rw [h5, List.take_add_one, List.getElem?_drop]
      rw [hd.1, Nat.add_zero] at h2
      have h6 : a[at_ + (pos - at_)]? = some c := by
        rw [show at_ + (pos - at_) = pos + 0 from by omega, ← List.getElem?_drop, h2]
        rfl
      rw [h6]
      simp
    · simp only [List.singleton_append, play, Int.toNat_natCast]
      rw [h (pos + del) (by omega) (by simpa using h3), show pos + del + 1 - (pos + del) = 1 from by omega, h4]
      simp
  · intro c b x y pos del ins r hab hl h at_ h1 h2
    refine h at_ h1 ?_
    rw [show pos + (del + 1) = pos + del + 1 from by omega, ← List.drop_drop, h2]
    rfl
  · intro c b x y pos del ins r hab hl h at_ h1 h2
    rw [h at_ h1 h2]; simp

/-- the edits back -/
def turn (a : Ls) : Int → List Ed → List Ed
  | _, [] => []
  | more, e :: l => ⟨e.pos + more, e.ins.length, (a.drop e.pos.toNat).take e.del.toNat⟩ :: turn a (more + e.ins.length - e.del) l
/-- what is known of right edits' first one -/
theorem right_head {n : Nat} {last : Int} {e : Ed} {l : List Ed} (h : right n last (e :: l) = true) (hl : -1 ≤ last) :
    ∃ p d : Nat, e.pos = p ∧ e.del = d ∧ p + d ≤ n ∧ last < p ∧ (d ≠ 0 ∨ e.ins ≠ []) ∧ right n ((p + d : Nat) : Int) l = true := by
  obtain ⟨⟨h1, h2, h3, h4, h5⟩, h6⟩ := (right_cons _ _ _ _).1 h
  obtain ⟨p, hp⟩ := Int.eq_ofNat_of_zero_le (show 0 ≤ e.pos by omega)
  obtain ⟨d, hd⟩ := Int.eq_ofNat_of_zero_le h1
  rw [hp, hd] at h6
  refine ⟨p, d, hp, hd, by omega, by omega, ?_, by rw [Int.natCast_add]; exact h6⟩
  rcases h2 with h2 | h2
  · exact .inl (by omega)
  · exact .inr h2
theorem play_turn (a : Ls) : ∀ (l : List Ed) (at_ : Nat) (last : Int) (pre : Ls) (F : Nat) (more : Int), -1 ≤ last → at_ ≤ last + 1 → right a.length last l = true → pre.length = F → (F : Int) = at_ + more →
    play (pre ++ play a at_ l) F (turn a more l) = a.drop at_
  | [], at_, last, pre, F, more, _, _, _, hp, _ => by
    subst hp
    simp [turn, play]
  | e :: l, at_, last, pre, F, more, h1, h2, hr, hp, hF => by
    obtain ⟨p, d, ep, ed, hpd, hlp, _, hr'⟩ := right_head hr h1
    have hat : at_ ≤ p := by omega
    rw [turn, play, play]
    simp only [ep, ed, Int.toNat_natCast]
    have e1 : ((p : Int) + more).toNat = F + (p - at_) := by omega
    rw [e1]
    have hlen : ((a.drop at_).take (p - at_)).length = p - at_ := by rw [List.length_take, List.length_drop]; omega
    have ih := play_turn a l (p + d) ((p + d : Nat) : Int) (pre ++ ((a.drop at_).take (p - at_) ++ e.ins)) (F + (p - at_) + e.ins.length) (more + e.ins.length - d) (by omega) (by omega) hr'
      (by rw [List.length_append, List.length_append, hlen, hp]; omega) (by omega)
    rw [List.append_assoc] at ih
    rw [ih, show F + (p - at_) - F = p - at_ from by omega, List.drop_left' hp]
    have e2 : ((a.drop at_).take (p - at_) ++ e.ins ++ play a (p + d) l).take (p - at_) = (a.drop at_).take (p - at_) := by
      rw [List.append_assoc, List.take_left' hlen]
    rw [e2, List.append_assoc, show a.drop (p + d) = a.drop (p + d) from rfl]
    have e3 : (a.drop p).take d ++ a.drop (p + d) = a.drop p := by
      have := drop_split a p (p + d) (by omega)
      rw [show p + d - p = d from by omega] at this
      exact this.symm
    rw [e3]
    exact (drop_split a at_ p hat).symm
theorem right_turn (a : Ls) : ∀ (l : List Ed) (at_ : Nat) (last more : Int) (n : Nat), -1 ≤ last → at_ ≤ last + 1 → right a.length last l = true → (n : Int) = (play a at_ l).length + at_ + more → right n (last + more) (turn a more l) = true
  | [], _, _, _, _, _, _, _, _ => rfl
  | e :: l, at_, last, more, n, h1, h2, hr, hn => by
    obtain ⟨p, d, ep, ed, hpd, hlp, hne, hr'⟩ := right_head hr h1
    rw [play] at hn
    simp only [ep, ed, Int.toNat_natCast, List.length_append, List.length_take, List.length_drop] at hn
    have ih := right_turn a l (p + d) ((p + d : Nat) : Int) (more + e.ins.length - d) n (by omega) (by omega) hr' (by omega)
    rw [turn, right_cons]
    simp only [ep, ed, Int.toNat_natCast]
    refine ⟨⟨by omega, ?_, by omega, by omega, by omega⟩, ?_⟩
    · rcases hne with h | h
      · right
        intro he
        have := congrArg List.length he
        rw [List.length_take, List.length_drop] at this
        simp at this
        omega
      · left
        have := List.length_pos_iff.2 h
        omega
    · have e1 : (p : Int) + more + e.ins.length = ((p + d : Nat) : Int) + (more + e.ins.length - d) := by omega
      rw [e1]; exact ih
theorem size_turn (a : Ls) : ∀ (l : List Ed) (last more : Int), -1 ≤ last → right a.length last l = true → size (turn a more l) = size l
  | [], _, _, _, _ => rfl
  | e :: l, last, more, h1, hr => by
    obtain ⟨p, d, ep, ed, hpd, hlp, hne, hr'⟩ := right_head hr h1
    rw [turn, size, size, size_turn a l ((p + d : Nat) : Int) _ (by omega) hr']
    simp only [ep, ed, Int.toNat_natCast, List.length_take, List.length_drop]
    omega
end Go.Proofs.Ytfmmececocilhaa.Df
namespace Go.Proofs.Ytfmmececocilhaa.Df

/-- how many in a row, from k on, p holds of, of so many at most -/
def run (p : Nat → Bool) : Nat → Nat → Nat
  | k, 0 => k
  | k, m + 1 => if p k = true then run p (k + 1) m else k
structure IsRun (p : Nat → Bool) (most n : Nat) : Prop where
  le : n ≤ most
  all : ∀ j, j < n → p j = true
  stop : n < most → p n = false
theorem IsRun.uniq {p : Nat → Bool} {most n m : Nat} (h : IsRun p most n) (k : IsRun p most m) : n = m := by
  rcases Nat.lt_trichotomy n m with hlt | he | hlt
  · have h1 := h.stop (by have := k.le; omega)
    have h2 := k.all n hlt
    rw [h1] at h2; cases h2
  · exact he
  · have h1 := k.stop (by have := h.le; omega)
    have h2 := h.all m hlt
    rw [h1] at h2; cases h2
theorem run_from (p : Nat → Bool) : ∀ (m k : Nat), (∀ j, j < k → p j = true) → IsRun p (k + m) (run p k m)
  | 0, k, h => ⟨Nat.le_refl _, h, fun h => absurd h (by simp [run])⟩
  | m + 1, k, h => by
    rw [run]
    by_cases hp : p k = true
    · rw [if_pos hp]
      have := run_from p m (k + 1) (fun j hj => by
        rcases Nat.lt_or_ge j k with hl | hl
        · exact h j hl
        · obtain rfl : j = k := by omega
          exact hp)
      rwa [show k + 1 + m = k + (m + 1) from by omega] at this
    · rw [if_neg hp]
      exact ⟨by omega, h, fun _ => by simpa using hp⟩
theorem run_is (p : Nat → Bool) (m : Nat) : IsRun p m (run p 0 m) := by
  have := run_from p m 0 (fun j h => absurd h (Nat.not_lt_zero _))
  rwa [Nat.zero_add] at this
theorem IsRun.congr {p q : Nat → Bool} {m n : Nat} (h : IsRun p m n) (he : ∀ j, j < m → p j = q j) : IsRun q m n :=
  ⟨h.le, fun j hj => by rw [← he j (by have := h.le; omega)]; exact h.all j hj, fun hn => by rw [← he n hn]; exact h.stop hn⟩

def frP (a b : Ls) (i : Nat) : Bool := decide (a.getD i [] = b.getD i [])
def bkP (a b : Ls) (i : Nat) : Bool := decide (a.getD (a.length - 1 - i) [] = b.getD (b.length - 1 - i) [])
def fr (a b : Ls) : Nat := run (frP a b) 0 (min a.length b.length)
def bk (a b : Ls) : Nat := run (bkP a b) 0 (min a.length b.length - fr a b)
/-- what is left of a list without so many in front, and behind -/
def mid (a : Ls) (f e : Nat) : Ls := (a.drop f).take (a.length - e - f)
/-- what is between two lists -/
def D (a b : Ls) : List Ed :=
  if (mid a (fr a b) (bk a b)).length * (mid b (fr a b) (bk a b)).length ≤ 65536 then go (mid a (fr a b) (bk a b)) (mid b (fr a b) (bk a b)) (fr a b) 0 []
  else emit (fr a b) (mid a (fr a b) (bk a b)).length (mid b (fr a b) (bk a b))
theorem fr_is (a b : Ls) : IsRun (frP a b) (min a.length b.length) (fr a b) := run_is _ _
theorem bk_is (a b : Ls) : IsRun (bkP a b) (min a.length b.length - fr a b) (bk a b) := run_is _ _
theorem mid_len (a : Ls) (f e : Nat) (h : f + e ≤ a.length) : (mid a f e).length = a.length - e - f := by
  unfold mid; rw [List.length_take, List.length_drop]; omega
theorem mid_parts (a : Ls) (f e : Nat) (h : f + e ≤ a.length) : a = a.take f ++ (mid a f e ++ a.drop (a.length - e)) := by
  unfold mid
  have := drop_split a f (a.length - e) (by omega)
  rw [← this, List.take_append_drop]
theorem ext_getD {x y : Ls} (hl : x.length = y.length) (h : ∀ j, j < x.length → x.getD j [] = y.getD j []) : x = y := by
  apply List.ext_getElem hl
  intro j h1 h2
  have := h j h1
  simpa [List.getD_eq_getElem?_getD, List.getElem?_eq_getElem h1, List.getElem?_eq_getElem h2] using this
/-- both lists by what they have in common in front and behind -/
theorem parts (a b : Ls) : ∃ p s x y : Ls, a = p ++ (x ++ s) ∧ b = p ++ (y ++ s) ∧ fr a b = p.length ∧ bk a b = s.length ∧ mid a (fr a b) (bk a b) = x ∧ mid b (fr a b) (bk a b) = y := by
  have hf := fr_is a b
  have he := bk_is a b
  have h1 := hf.le
  have h2 := he.le
  have hp : a.take (fr a b) = b.take (fr a b) := by
    apply ext_getD
    · rw [List.length_take, List.length_take]; omega
    · intro j hj
      rw [List.length_take] at hj
      have := hf.all j (by omega)
      simp only [frP, decide_eq_true_eq] at this
      simpa [List.getD_eq_getElem?_getD, List.getElem?_take, show j < fr a b from by omega] using this
  have hs : a.drop (a.length - bk a b) = b.drop (b.length - bk a b) := by
    apply ext_getD
    · rw [List.length_drop, List.length_drop]; omega
    · intro j hj
      rw [List.length_drop] at hj
      have := he.all (bk a b - 1 - j) (by omega)
      simp only [bkP, decide_eq_true_eq] at this
      rw [show a.length - 1 - (bk a b - 1 - j) = a.length - bk a b + j from by omega, show b.length - 1 - (bk a b - 1 - j) = b.length - bk a b + j from by omega] at this
      simpa [List.getD_eq_getElem?_getD, List.getElem?_drop] using this
  refine ⟨a.take (fr a b), a.drop (a.length - bk a b), _, _, mid_parts a _ _ (by omega), ?_, ?_, ?_, rfl, rfl⟩
  · rw [hp, hs]; exact mid_parts b _ _ (by omega)
  · rw [List.length_take]; omega
  · rw [List.length_drop]; omega
theorem mul_le {x y n m : Nat} (h1 : x ≤ n) (h2 : y ≤ m) : x * y ≤ n * m := Nat.mul_le_mul h1 h2
theorem D_size (a b : Ls) (h : a.length * b.length ≤ 65536) : size (D a b) + 2 * (lcs a b : Int) = a.length + b.length := by
  obtain ⟨p, s, x, y, ha, hb, hf, he, hx, hy⟩ := parts a b
  have hl : lcs a b = p.length + (lcs x y + s.length) := by rw [ha, hb, lcs_front, lcs_back]
  have la := congrArg List.length ha
  have lb := congrArg List.length hb
  rw [List.length_append, List.length_append] at la lb
  have hm : x.length * y.length ≤ 65536 := Nat.le_trans (mul_le (by omega) (by omega)) h
  unfold D
  rw [hx, hy, if_pos hm, hl, la, lb]
  have := size_go x y (fr a b) 0 []
  simp at this ⊢
  omega
theorem play_emit (a : Ls) (pos : Nat) (x y s : Ls) (at_ : Nat) (h : at_ ≤ pos) (h2 : a.drop pos = x ++ s) : play a at_ (emit pos x.length y) = (a.drop at_).take (pos - at_) ++ y ++ s := by
  unfold emit
  split
  · rename_i hd
    obtain rfl : x = [] := List.eq_nil_of_length_eq_zero hd.1
    rw [hd.2, play, List.append_nil, ← List.nil_append s, ← h2]
    exact drop_split a at_ pos h
  · simp only [play, Int.toNat_natCast]
    rw [← List.drop_drop, h2, List.drop_left]
theorem D_play (a b : Ls) : play a 0 (D a b) = b := by
  obtain ⟨p, s, x, y, ha, hb, hf, he, hx, hy⟩ := parts a b
  have hd : a.drop (fr a b) = x ++ s := by rw [hf]; conv => lhs; rw [ha]
                                           rw [List.drop_left]
  have ht : a.take (fr a b) = p := by rw [hf]; conv => lhs; rw [ha]
                                      rw [List.take_left]
  unfold D
  rw [hx, hy]
  split
  · rw [play_go a s x y (fr a b) 0 [] 0 (Nat.zero_le _) hd, List.drop_zero, Nat.sub_zero, ht, List.append_nil]
    conv => rhs; rw [hb]
    rw [List.append_assoc]
  · rw [play_emit a (fr a b) x y s 0 (Nat.zero_le _) hd, List.drop_zero, Nat.sub_zero, ht]
    conv => rhs; rw [hb]
    rw [List.append_assoc]
theorem D_right (a b : Ls) : right a.length (-1) (D a b) = true := by
  obtain ⟨p, s, x, y, ha, hb, hf, he, hx, hy⟩ := parts a b
  have la := congrArg List.length ha
  rw [List.length_append, List.length_append] at la
  unfold D
  rw [hx, hy]
  split
  · exact right_go _ _ _ _ _ _ _ (by omega) (by omega)
  · have := right_emit a.length (-1) (fr a b) x.length y [] (by omega) (by omega) (fun _ _ => rfl)
    rwa [List.append_nil] at this
theorem D_self (a : Ls) : D a a = [] := by
  have hf : fr a a = a.length := by
    refine (fr_is a a).uniq ⟨by omega, fun j _ => by simp [frP], fun h => by omega⟩
  have he : bk a a = 0 := by
    have := (bk_is a a).le
    omega
  unfold D
  rw [hf, he]
  simp [mid, go_nil, emit]
theorem D_nil {a b : Ls} (h : D a b = []) : a = b := by
  have := D_play a b
  rw [h, play] at this
  simpa using this
theorem D_nil_iff (a b : Ls) : ((D a b).length = 0) ↔ a = b :=
  ⟨fun h => D_nil (List.eq_nil_of_length_eq_zero h), fun h => by rw [h, D_self]; rfl⟩

/-- the same edits, further on -/
def shift (n : Nat) (l : List Ed) : List Ed := l.map fun e => ⟨e.pos + n, e.del, e.ins⟩
theorem shift_emit (n pos del : Nat) (ins : Ls) : emit (pos + n) del ins = shift n (emit pos del ins) := by
  unfold emit shift
  split
  · rfl
  · simp
theorem shift_go (n : Nat) (x y : Ls) (pos del : Nat) (ins : Ls) : go x y (pos + n) del ins = shift n (go x y pos del ins) := by
  have key : ∀ (m : Nat) (x y : Ls) (pos del : Nat) (ins : Ls), x.length + y.length ≤ m → go x y (pos + n) del ins = shift n (go x y pos del ins) := by
    intro m
    induction m with
    | zero =>
      intro x y pos del ins h
      obtain rfl : x = [] := List.eq_nil_of_length_eq_zero (by omega)
      obtain rfl : y = [] := List.eq_nil_of_length_eq_zero (by omega)
      rw [go_nil, go_nil, shift_emit]
    | succ m ih =>
      intro x y pos del ins h
      cases x with
      | nil =>
        cases y with
        | nil => rw [go_nil, go_nil, shift_emit]
        | cons b y => rw [go_come, go_come]; exact ih _ _ _ _ _ (by simp at h ⊢; omega)
      | cons a x =>
        cases y with
        | nil => rw [go_gone, go_gone]; exact ih _ _ _ _ _ (by simp at h ⊢; omega)
        | cons b y =>
          simp only [List.length_cons] at h
          rw [go_both, go_both]
          split
          · have e : pos + n + del + 1 = pos + del + 1 + n := by omega
            rw [e, ih x y _ _ _ (by omega), shift_emit]
            simp [shift]
          · split
            · exact ih _ _ _ _ _ (by simp; omega)
            · exact ih _ _ _ _ _ (by simp; omega)
  exact key _ x y pos del ins (Nat.le_refl _)
theorem getD_mid (F a G : Ls) (i : Nat) (h : i < a.length) : (F ++ (a ++ G)).getD (F.length + i) [] = a.getD i [] := by
  simp [List.getD_eq_getElem?_getD, List.getElem?_append_right, List.getElem?_append_left h]
theorem getD_front (F r : Ls) (i : Nat) (h : i < F.length) : (F ++ r).getD i [] = F.getD i [] := by
  simp [List.getD_eq_getElem?_getD, List.getElem?_append_left h]
theorem getD_back (F a G : Ls) (i : Nat) : (F ++ (a ++ G)).getD (F.length + (a.length + i)) [] = G.getD i [] := by
  simp [List.getD_eq_getElem?_getD, List.getElem?_append_right]
theorem getD_mem {l : Ls} {i : Nat} (h : i < l.length) : l.getD i [] ∈ l := by simp [List.getElem?_eq_getElem h]
theorem getD_rep (n i : Nat) (z : List UInt8) (h : i < n) : (List.replicate n z).getD i [] = z := by simp [h]
/-- what both have around changes nothing -/
theorem D_around (a b : Ls) (n m : Nat) (z : List UInt8) (ha : z ∉ a) (hb : z ∉ b) :
    D (List.replicate n z ++ (a ++ List.replicate m z)) (List.replicate n z ++ (b ++ List.replicate m z)) = shift n (D a b) := by
  by_cases hab : a = b
  · subst hab; rw [D_self, D_self]; rfl
  obtain ⟨F, hF⟩ : ∃ F, F = List.replicate n z := ⟨_, rfl⟩
  obtain ⟨G, hG⟩ : ∃ G, G = List.replicate m z := ⟨_, rfl⟩
  rw [← hF, ← hG]
  have lF : F.length = n := by rw [hF]; simp
  have lG : G.length = m := by rw [hG]; simp
  have hf := fr_is a b
  have he := bk_is a b
  obtain ⟨f, hfe⟩ : ∃ f, f = fr a b := ⟨_, rfl⟩
  obtain ⟨e, hee⟩ : ∃ e, e = bk a b := ⟨_, rfl⟩
  rw [← hfe] at hf he
  rw [← hee] at he
  have hf1 := hf.le
  have he1 := he.le
  have hnotboth : ¬ (f = a.length ∧ f = b.length) := by
    rintro ⟨h1, h2⟩
    refine hab (ext_getD (by omega) fun j hj => ?_)
    have := hf.all j (by omega)
    simpa [frP] using this
  have lA : (F ++ (a ++ G)).length = n + (a.length + m) := by simp [lF, lG]
  have lB : (F ++ (b ++ G)).length = n + (b.length + m) := by simp [lF, lG]
  have gA : ∀ i, i < a.length → (F ++ (a ++ G)).getD (n + i) [] = a.getD i [] := fun i h => by rw [← lF]; exact getD_mid F a G i h
  have gB : ∀ i, i < b.length → (F ++ (b ++ G)).getD (n + i) [] = b.getD i [] := fun i h => by rw [← lF]; exact getD_mid F b G i h
  have zA : ∀ i, i < m → (F ++ (a ++ G)).getD (n + (a.length + i)) [] = z := fun i h => by rw [← lF, getD_back, hG, getD_rep _ _ _ h]
  have zB : ∀ i, i < m → (F ++ (b ++ G)).getD (n + (b.length + i)) [] = z := fun i h => by rw [← lF, getD_back, hG, getD_rep _ _ _ h]
  have nA : ∀ i, i < a.length → a.getD i [] ≠ z := fun i h hz => ha (hz ▸ getD_mem h)
  have nB : ∀ i, i < b.length → b.getD i [] ≠ z := fun i h hz => hb (hz ▸ getD_mem h)
  have hfr : fr (F ++ (a ++ G)) (F ++ (b ++ G)) = n + f := by
    refine (fr_is _ _).uniq ⟨by rw [lA, lB]; omega, fun j hj => ?_, fun hlt => ?_⟩
    · simp only [frP, decide_eq_true_eq]
      rcases Nat.lt_or_ge j n with hjn | hjn
      · rw [getD_front _ _ _ (by omega), getD_front _ _ _ (by omega)]
      · obtain ⟨i, rfl⟩ : ∃ i, j = n + i := ⟨j - n, by omega⟩
        rw [gA i (by omega), gB i (by omega)]
        have := hf.all i (by omega)
        simpa [frP] using this
    · rw [lA, lB] at hlt
      simp only [frP, decide_eq_false_iff_not]
      rcases Nat.lt_or_ge f a.length with h1 | h1
      · rcases Nat.lt_or_ge f b.length with h2 | h2
        · rw [gA f h1, gB f h2]
          have := hf.stop (by omega)
          simpa [frP] using this
        · obtain rfl : f = b.length := by omega
          rw [gA _ h1, show n + b.length = n + (b.length + 0) from rfl, zB 0 (by omega)]
          exact nA _ h1
      · obtain rfl : f = a.length := by omega
        rw [gB _ (by omega), show n + a.length = n + (a.length + 0) from rfl, zA 0 (by omega)]
        exact fun h => nB _ (by omega) h.symm
  have hbk : bk (F ++ (a ++ G)) (F ++ (b ++ G)) = m + e := by
    refine (bk_is _ _).uniq ⟨by rw [lA, lB, hfr]; omega, fun j hj => ?_, fun hlt => ?_⟩
    · simp only [bkP, decide_eq_true_eq, lA, lB]
      rcases Nat.lt_or_ge j m with hjn | hjn
      · rw [show n + (a.length + m) - 1 - j = n + (a.length + (m - 1 - j)) from by omega, zA _ (by omega), show n + (b.length + m) - 1 - j = n + (b.length + (m - 1 - j)) from by omega, zB _ (by omega)]
      · rw [show n + (a.length + m) - 1 - j = n + (a.length - 1 - (j - m)) from by omega, gA _ (by omega), show n + (b.length + m) - 1 - j = n + (b.length - 1 - (j - m)) from by omega, gB _ (by omega)]
        have := he.all (j - m) (by omega)
        simpa [bkP] using this
    · rw [lA, lB, hfr] at hlt
      simp only [bkP, decide_eq_false_iff_not, lA, lB]
      rw [show n + (a.length + m) - 1 - (m + e) = n + (a.length - 1 - e) from by omega, gA _ (by omega), show n + (b.length + m) - 1 - (m + e) = n + (b.length - 1 - e) from by omega, gB _ (by omega)]
      have := he.stop (by omega)
      simpa [bkP] using this
  have hmid : ∀ c : Ls, f + e ≤ c.length → mid (F ++ (c ++ G)) (n + f) (m + e) = mid c f e := by
    intro c hc
    unfold mid
    have lC : (F ++ (c ++ G)).length = n + (c.length + m) := by simp [lF, lG]
    rw [lC, ← lF, ← List.drop_drop, List.drop_left, List.drop_append_of_le_length (by omega), lF, show n + (c.length + m) - (m + e) - (n + f) = c.length - e - f from by omega, List.take_append_of_le_length (by rw [List.length_drop]; omega)]
  unfold D
  rw [hfr, hbk, hmid a (by omega), hmid b (by omega), ← hfe, ← hee, Nat.add_comm n f, shift_go, shift_emit]
  split <;> rfl
/-- of two lists that are too long all of the middle goes, and comes -/
theorem D_long (n m k : Nat) (x y z : List UInt8) (hxy : x ≠ y) (hk : 65536 < k * k) :
    D (List.replicate n z ++ (List.replicate k x ++ List.replicate m z)) (List.replicate n z ++ (List.replicate k y ++ List.replicate m z)) = [⟨n, k, List.replicate k y⟩] := by
  have hk0 : 0 < k := by
    rcases Nat.eq_zero_or_pos k with h | h
    · subst h; simp at hk
    · exact h
  obtain ⟨F, hF⟩ : ∃ F, F = List.replicate n z := ⟨_, rfl⟩
  obtain ⟨G, hG⟩ : ∃ G, G = List.replicate m z := ⟨_, rfl⟩
  rw [← hF, ← hG]
  have lF : F.length = n := by rw [hF]; simp
  have lG : G.length = m := by rw [hG]; simp
  have lC : ∀ c : List UInt8, (F ++ (List.replicate k c ++ G)).length = n + (k + m) := fun c => by simp [lF, lG]
  have gC : ∀ (c : List UInt8) (i : Nat), i < k → (F ++ (List.replicate k c ++ G)).getD (n + i) [] = c := fun c i h => by
    rw [← lF, getD_mid F _ G i (by simpa using h), getD_rep _ _ _ h]
  have zC : ∀ (c : List UInt8) (i : Nat), i < m → (F ++ (List.replicate k c ++ G)).getD (n + (k + i)) [] = z := fun c i h => by
    have := getD_back F (List.replicate k c) G i
    rw [List.length_replicate, lF] at this
    rw [this, hG, getD_rep _ _ _ h]
  have hfr : fr (F ++ (List.replicate k x ++ G)) (F ++ (List.replicate k y ++ G)) = n := by
    refine (fr_is _ _).uniq ⟨by rw [lC, lC]; omega, fun j hj => ?_, fun _ => ?_⟩
    · simp only [frP, decide_eq_true_eq]
      rw [getD_front _ _ _ (by omega), getD_front _ _ _ (by omega)]
    · simp only [frP, decide_eq_false_iff_not]
      have h1 := gC x 0 hk0
      have h2 := gC y 0 hk0
      rw [Nat.add_zero] at h1 h2
      rw [h1, h2]
      exact hxy
  have hbk : bk (F ++ (List.replicate k x ++ G)) (F ++ (List.replicate k y ++ G)) = m := by
    refine (bk_is _ _).uniq ⟨by rw [lC, lC, hfr]; omega, fun j hj => ?_, fun _ => ?_⟩
    · simp only [bkP, decide_eq_true_eq, lC]
      rw [show n + (k + m) - 1 - j = n + (k + (m - 1 - j)) from by omega, zC _ _ (by omega), zC _ _ (by omega)]
    · simp only [bkP, decide_eq_false_iff_not, lC]
      rw [show n + (k + m) - 1 - m = n + (k - 1) from by omega, gC _ _ (by omega), gC _ _ (by omega)]
      exact hxy
  have hmid : ∀ c : List UInt8, mid (F ++ (List.replicate k c ++ G)) n m = List.replicate k c := by
    intro c
    unfold mid
    rw [lC, ← lF, List.drop_left, lF, show n + (k + m) - m - n = k from by omega, List.take_left' (by simp)]
  unfold D
  rw [hfr, hbk, hmid x, hmid y, List.length_replicate, List.length_replicate, if_neg (by omega)]
  unfold emit
  rw [if_neg (by omega)]
end Go.Proofs.Ytfmmececocilhaa.Df
namespace Go.Proofs.Ytfmmececocilhaa.Hu
open Df

/-- a hunk -/
structure Hk where
  a : Int
  an : Int
  b : Int
  bn : Int
  lines : Ls
/-- a line's sign -/
def sg (x : List UInt8) : UInt8 := x.headD 0
/-- how many lines stay, or have a sign -/
def many (s : UInt8) : Ls → Nat
  | [] => 0
  | x :: l => (if sg x = 32 ∨ sg x = s then 1 else 0) + many s l
theorem many_append (s : UInt8) : ∀ l r : Ls, many s (l ++ r) = many s l + many s r
  | [], r => by simp [many]
  | x :: l, r => by rw [List.cons_append, many, many, many_append s l r]; omega
theorem many_le (s : UInt8) : ∀ l : Ls, many s l ≤ l.length
  | [] => Nat.le_refl _
  | x :: l => by rw [many, List.length_cons]; have := many_le s l; split <;> omega
theorem many_snoc (s : UInt8) (L : Ls) (k : Nat) (h : k < L.length) : many s (L.take (k + 1)) = many s (L.take k) + (if sg (L.getD k []) = 32 ∨ sg (L.getD k []) = s then 1 else 0) := by
  rw [List.take_succ_eq_append_getElem h, many_append]; simp [many, List.getElem?_eq_getElem h]
theorem many_take (s : UInt8) (L : Ls) (k : Nat) : many s (L.take k) ≤ many s L := by
  have h := many_append s (L.take k) (L.drop k)
  rw [List.take_append_drop] at h
  omega
/-- may lines stand so; p: is the one ahead one that comes? -/
def okF : Bool → Ls → Bool
  | _, [] => true
  | p, x :: l => (decide (sg x = 32 ∨ sg x = 45 ∨ sg x = 43) && !(decide (sg x = 45) && p)) && okF (decide (sg x = 43)) l
def hright (h : Hk) : Bool := okF false h.lines && (((decide (0 ≤ h.a) && decide (0 ≤ h.b)) && decide (h.an = many 45 h.lines)) && decide (h.bn = many 43 h.lines))

/-- lines that stay, go, and come, without signs -/
structure Pt where
  st : Ls
  gn : Ls
  cm : Ls
def mk (s : UInt8) (l : Ls) : Ls := l.map (s :: ·)
def layP (p : Pt) : Ls := mk 32 p.st ++ (mk 45 p.gn ++ mk 43 p.cm)
def lay : List Pt → Ls
  | [] => []
  | p :: r => layP p ++ lay r
theorem mk_len (s : UInt8) (l : Ls) : (mk s l).length = l.length := by simp [mk]
theorem mk_nil (s : UInt8) : mk s [] = [] := rfl
theorem mk_cons (s : UInt8) (x : List UInt8) (l : Ls) : mk s (x :: l) = (s :: x) :: mk s l := rfl
theorem mk_append (s : UInt8) (l r : Ls) : mk s (l ++ r) = mk s l ++ mk s r := by simp [mk]
theorem mk_eq_nil {s : UInt8} {l : Ls} : mk s l = [] ↔ l = [] := by simp [mk]
theorem sg_mk (s : UInt8) (x : List UInt8) : sg (s :: x) = s := rfl
theorem lay_append : ∀ p q : List Pt, lay (p ++ q) = lay p ++ lay q
  | [], q => rfl
  | x :: p, q => by rw [List.cons_append, lay, lay, lay_append p q, List.append_assoc]
theorem many_mk (s t : UInt8) (l : Ls) : many s (mk t l) = if t = 32 ∨ t = s then l.length else 0 := by
  induction l with
  | nil => rw [mk_nil, many]; split <;> rfl
  | cons x l ih => rw [mk_cons, many, sg_mk, ih]; split <;> simp <;> omega
theorem many_old (p : Pt) : many 45 (layP p) = p.st.length + p.gn.length := by
  rw [layP, many_append, many_append, many_mk, many_mk, many_mk]; simp
theorem many_new (p : Pt) : many 43 (layP p) = p.st.length + p.cm.length := by
  rw [layP, many_append, many_append, many_mk, many_mk, many_mk]; simp
/-- each part but the last has lines that go or come, each but the first lines that stay, and none is empty -/
def Good : List Pt → Prop
  | [] => True
  | p :: r => (p.st ≠ [] ∨ p.gn ≠ [] ∨ p.cm ≠ []) ∧ (∀ q t, r = q :: t → (p.gn ≠ [] ∨ p.cm ≠ []) ∧ q.st ≠ []) ∧ Good r
theorem Good.tail {p : Pt} {r : List Pt} (h : Good (p :: r)) : Good r := h.2.2
/-- a text of lines begins with one that stays, or is empty -/
def Stay : Ls → Prop
  | [] => True
  | x :: _ => sg x = 32
theorem Good.stay {p : Pt} {r : List Pt} (h : Good (p :: r)) : Stay (lay r) := by
  cases r with
  | nil => trivial
  | cons q t =>
    obtain ⟨_, h2⟩ := h.2.1 q t rfl
    rw [lay, layP]
    cases hq : q.st with
    | nil => exact absurd hq h2
    | cons x s => exact rfl
theorem Good.last {p : Pt} {r : List Pt} (h : Good (p :: r)) (hg : p.gn = []) (hc : p.cm = []) : r = [] := by
  cases r with
  | nil => rfl
  | cons q t =>
    obtain ⟨h1, _⟩ := h.2.1 q t rfl
    rcases h1 with h1 | h1
    · exact absurd hg h1
    · exact absurd hc h1
theorem okF_cons (p : Bool) (x : List UInt8) (l : Ls) : okF p (x :: l) = true ↔ ((sg x = 32 ∨ sg x = 45 ∨ sg x = 43) ∧ (sg x = 45 → p = false)) ∧ okF (decide (sg x = 43)) l = true := by
  rw [okF, Bool.and_eq_true, Bool.and_eq_true, decide_eq_true_eq, Bool.not_eq_true', Bool.and_eq_false_iff]
  simp only [decide_eq_false_iff_not]
  constructor
  · rintro ⟨⟨h1, h2⟩, h3⟩
    exact ⟨⟨h1, fun h => h2.resolve_left fun k => k h⟩, h3⟩
  · rintro ⟨⟨h1, h2⟩, h3⟩
    refine ⟨⟨h1, ?_⟩, h3⟩
    by_cases h : sg x = 45
    · exact .inr (h2 h)
    · exact .inl h
theorem sg_split {x : List UInt8} {s : UInt8} (h : sg x = s) (hs : s ≠ 0) : ∃ t, x = s :: t := by
  cases x with
  | nil => exact absurd h.symm hs
  | cons b t => exact ⟨t, by rw [show b = s from h]⟩
/-- lines that may stand are parts -/
theorem parts_of : ∀ (L : Ls) (p : Bool), okF p L = true → ∃ ps, Good ps ∧ L = lay ps ∧ (p = true → ∀ q t, ps = q :: t → q.st = [] → q.gn = [])
  | [], p, _ => ⟨[], trivial, rfl, fun _ q t h => by cases h⟩
  | x :: l, p, h => by
    obtain ⟨⟨h1, h2⟩, h3⟩ := (okF_cons p x l).1 h
    obtain ⟨ps, hg, hl, hp⟩ := parts_of l _ h3
    rcases h1 with h1 | h1 | h1
    · obtain ⟨t, rfl⟩ := sg_split h1 (by decide)
      cases ps with
      | nil => exact ⟨[⟨[t], [], []⟩], ⟨.inl (by simp), (fun q s h => by cases h), trivial⟩, by rw [hl]; rfl, fun _ q s h hq => by cases h; cases hq⟩
      | cons q r =>
        refine ⟨⟨t :: q.st, q.gn, q.cm⟩ :: r, ⟨.inl (by simp), fun q' s h => hg.2.1 q' s h, hg.2.2⟩, by rw [hl]; rfl, fun _ q s h hq => by cases h; cases hq⟩
    · obtain ⟨t, rfl⟩ := sg_split h1 (by decide)
      have hpf := h2 h1
      cases ps with
      | nil => exact ⟨[⟨[], [t], []⟩], ⟨.inr (.inl (by simp)), (fun q s h => by cases h), trivial⟩, by rw [hl]; rfl, fun h => by rw [hpf] at h; cases h⟩
      | cons q r =>
        cases hq : q.st with
        | nil =>
          refine ⟨⟨[], t :: q.gn, q.cm⟩ :: r, ⟨.inr (.inl (by simp)), fun q' s h => ⟨.inl (by simp), (hg.2.1 q' s h).2⟩, hg.2.2⟩, ?_, fun h => by rw [hpf] at h; cases h⟩
          rw [hl, lay, layP, hq]; rfl
        | cons y s =>
          exact ⟨⟨[], [t], []⟩ :: q :: r, ⟨.inr (.inl (by simp)), fun q' s' h => by cases h; exact ⟨.inl (by simp), by rw [hq]; simp⟩, hg⟩, by rw [hl]; rfl, fun h => by rw [hpf] at h; cases h⟩
    · obtain ⟨t, rfl⟩ := sg_split h1 (by decide)
      cases ps with
      | nil => exact ⟨[⟨[], [], [t]⟩], ⟨.inr (.inr (by simp)), (fun q s h => by cases h), trivial⟩, by rw [hl]; rfl, fun _ q s h _ => by cases h; rfl⟩
      | cons q r =>
        cases hq : q.st with
        | nil =>
          have hgn := hp (decide_eq_true h1) q r rfl hq
          refine ⟨⟨[], [], t :: q.cm⟩ :: r, ⟨.inr (.inr (by simp)), fun q' s h => ⟨.inr (by simp), (hg.2.1 q' s h).2⟩, hg.2.2⟩, ?_, fun _ q s h _ => by cases h; rfl⟩
          rw [hl, lay, layP, hq, hgn]; rfl
        | cons y s =>
          exact ⟨⟨[], [], [t]⟩ :: q :: r, ⟨.inr (.inr (by simp)), fun q' s' h => by cases h; exact ⟨.inr (by simp), by rw [hq]; simp⟩, hg⟩, by rw [hl]; rfl, fun _ q s h _ => by cases h; rfl⟩
theorem okF_stay : ∀ (l : Ls) (p : Bool) (X : Ls), okF p (mk 32 l ++ X) = match l with | [] => okF p X | _ :: _ => okF false X
  | [], _, _ => rfl
  | x :: l, p, X => by
    rw [mk_cons, List.cons_append, okF, sg_mk, okF_stay l]
    cases l <;> simp
theorem okF_gone : ∀ (l : Ls) (X : Ls), okF false (mk 45 l ++ X) = okF false X
  | [], _ => rfl
  | x :: l, X => by rw [mk_cons, List.cons_append, okF, sg_mk, show decide ((45 : UInt8) = 43) = false from rfl, okF_gone l]; rfl
theorem okF_come : ∀ (l : Ls) (p : Bool) (X : Ls), okF p (mk 43 l ++ X) = match l with | [] => okF p X | _ :: _ => okF true X
  | [], _, _ => rfl
  | x :: l, p, X => by
    rw [mk_cons, List.cons_append, okF, sg_mk, okF_come l]
    cases l <;> simp
theorem okF_false_of_stay {X : Ls} (h : Stay X) (p q : Bool) : okF p X = okF q X := by
  cases X with
  | nil => rfl
  | cons x l =>
    have hx : sg x = 32 := h
    rw [okF, okF, hx]; simp
/-- parts are lines that may stand -/
theorem okF_lay : ∀ ps : List Pt, Good ps → okF false (lay ps) = true
  | [], _ => rfl
  | p :: r, h => by
    have ih := okF_lay r h.tail
    have hs := h.stay
    rw [lay, layP, List.append_assoc, List.append_assoc, okF_stay]
    have e : okF false (mk 45 p.gn ++ (mk 43 p.cm ++ lay r)) = true := by
      rw [okF_gone, okF_come]
      cases p.cm with
      | nil => exact ih
      | cons x l => rw [← ih]; exact okF_false_of_stay hs _ _
    cases p.st <;> exact e

/-- the lines that have a sign, from the first one on, and what is behind them -/
theorem front_mk (s : UInt8) : ∀ (l X : Ls), (∀ x t, X = x :: t → sg x ≠ s) → (mk s l ++ X).takeWhile (fun x => decide (sg x = s)) = mk s l ∧ (mk s l ++ X).dropWhile (fun x => decide (sg x = s)) = X
  | [], X, h => by
    cases X with
    | nil => exact ⟨rfl, rfl⟩
    | cons x t =>
      have hd := decide_eq_false (h x t rfl)
      rw [mk_nil, List.nil_append, List.takeWhile_cons, List.dropWhile_cons, hd]
      exact ⟨rfl, rfl⟩
  | y :: l, X, h => by
    obtain ⟨h1, h2⟩ := front_mk s l X h
    rw [mk_cons, List.cons_append, List.takeWhile_cons, List.dropWhile_cons, sg_mk, h1, h2]
    simp
theorem ne_of_stay {X : Ls} (h : Stay X) {s : UInt8} (hs : s ≠ 32) : ∀ x t, X = x :: t → sg x ≠ s := by
  rintro x t rfl
  have hx : sg x = 32 := h
  rw [hx]
  exact fun e => hs e.symm
theorem ne_gone (cm X : Ls) (h : Stay X) : ∀ x t, mk 43 cm ++ X = x :: t → sg x ≠ 45 := by
  intro x t he
  cases cm with
  | nil => exact ne_of_stay h (by decide) x t he
  | cons c l =>
    rw [mk_cons, List.cons_append] at he
    injection he with h1 _
    rw [← h1, sg_mk]; decide
theorem ne_stay {p : Pt} {r : List Pt} (h : Good (p :: r)) : ∀ x t, mk 45 p.gn ++ (mk 43 p.cm ++ lay r) = x :: t → sg x ≠ 32 := by
  intro x t he
  cases hg : p.gn with
  | cons c l =>
    rw [hg, mk_cons, List.cons_append] at he
    injection he with h1 _
    rw [← h1, sg_mk]; decide
  | nil =>
    cases hc : p.cm with
    | cons c l =>
      rw [hg, hc, mk_nil, List.nil_append, mk_cons, List.cons_append] at he
      injection he with h1 _
      rw [← h1, sg_mk]; decide
    | nil =>
      rw [h.last hg hc, hg, hc] at he
      cases he

/-- what parts tell, from line 'at' on -/
def emitZ (pos del : Int) (ins : Ls) : List Ed := if del = 0 ∧ ins = [] then [] else [⟨pos, del, ins⟩]
def edP : Int → List Pt → List Ed
  | _, [] => []
  | z, p :: r => emitZ (z + p.st.length) p.gn.length p.cm ++ edP (z + p.st.length + p.gn.length) r
/-- the same, line by line; o: the edit that is being told -/
def edL : Int → Option Ed → Ls → List Ed
  | _, o, [] => o.toList
  | z, o, x :: l =>
    if sg x = 32 then o.toList ++ edL (z + 1) none l
    else if sg x = 45 then edL (z + 1) (some ⟨(o.getD ⟨z, 0, []⟩).pos, (o.getD ⟨z, 0, []⟩).del + 1, (o.getD ⟨z, 0, []⟩).ins⟩) l
    else edL z (some ⟨(o.getD ⟨z, 0, []⟩).pos, (o.getD ⟨z, 0, []⟩).del, (o.getD ⟨z, 0, []⟩).ins ++ [x.tail]⟩) l
theorem edL_stay : ∀ (l X : Ls) (z : Int), edL z none (mk 32 l ++ X) = edL (z + l.length) none X
  | [], X, z => by simp [mk_nil]
  | x :: l, X, z => by
    rw [mk_cons, List.cons_append, edL, sg_mk, if_pos rfl, edL_stay l]
    simp only [Option.toList_none, List.nil_append, List.length_cons]
    congr 1; omega
theorem edL_gone : ∀ (l X : Ls) (z : Int) (e : Ed), edL z (some e) (mk 45 l ++ X) = edL (z + l.length) (some ⟨e.pos, e.del + l.length, e.ins⟩) X
  | [], X, z, e => by simp [mk_nil]
  | x :: l, X, z, e => by
    rw [mk_cons, List.cons_append, edL, sg_mk, if_neg (by decide), if_pos rfl, edL_gone l]
    simp only [Option.getD_some, List.length_cons]
    congr 1
    · omega
    · congr 2; omega
theorem edL_come : ∀ (l X : Ls) (z : Int) (e : Ed), edL z (some e) (mk 43 l ++ X) = edL z (some ⟨e.pos, e.del, e.ins ++ l⟩) X
  | [], X, z, e => by simp [mk_nil]
  | x :: l, X, z, e => by
    rw [mk_cons, List.cons_append, edL, sg_mk, if_neg (by decide), if_neg (by decide), edL_come l]
    simp
theorem edL_open (X : Ls) (z : Int) (x : List UInt8) (h : sg x ≠ 32) : edL z none (x :: X) = edL z (some ⟨z, 0, []⟩) (x :: X) := by
  rw [edL, edL, if_neg h, if_neg h]; simp
theorem edL_shut {X : Ls} (h : Stay X) (z : Int) (e : Ed) : edL z (some e) X = e :: edL z none X := by
  cases X with
  | nil => rfl
  | cons x l =>
    have hx : sg x = 32 := h
    rw [edL, edL, if_pos hx, if_pos hx]; rfl
theorem edL_lay : ∀ (ps : List Pt) (z : Int), Good ps → edL z none (lay ps) = edP z ps
  | [], z, _ => rfl
  | p :: r, z, h => by
    have ih := edL_lay r
    have hs := h.stay
    rw [lay, layP, List.append_assoc, List.append_assoc, edL_stay, edP, ← ih _ h.tail]
    unfold emitZ
    by_cases hd : p.gn = [] ∧ p.cm = []
    · rw [if_pos ⟨by rw [hd.1]; rfl, hd.2⟩, hd.1, hd.2]
      simp [mk_nil]
    · have hne : ¬ ((p.gn.length : Int) = 0 ∧ p.cm = []) := by
        rintro ⟨h1, h2⟩
        exact hd ⟨List.eq_nil_of_length_eq_zero (by omega), h2⟩
      rw [if_neg hne]
      have ho : edL (z + p.st.length) none (mk 45 p.gn ++ (mk 43 p.cm ++ lay r)) = edL (z + p.st.length) (some ⟨z + p.st.length, 0, []⟩) (mk 45 p.gn ++ (mk 43 p.cm ++ lay r)) := by
        cases hX : mk 45 p.gn ++ (mk 43 p.cm ++ lay r) with
        | nil =>
          have hg : p.gn = [] := mk_eq_nil.1 (List.append_eq_nil_iff.1 hX).1
          have hc : p.cm = [] := mk_eq_nil.1 (List.append_eq_nil_iff.1 (List.append_eq_nil_iff.1 hX).2).1
          exact absurd ⟨hg, hc⟩ hd
        | cons x l => exact edL_open _ _ _ (ne_stay h x l hX)
      rw [ho, edL_gone, edL_come, edL_shut hs]
      simp
/-- the other way round -/
def swp (p : Pt) : Pt := ⟨p.st, p.cm, p.gn⟩
theorem swp_swp (ps : List Pt) : (ps.map swp).map swp = ps := by
  rw [List.map_map]
  conv => rhs; rw [← List.map_id ps]
  rfl
theorem Good.swp : ∀ {ps : List Pt}, Good ps → Good (ps.map swp)
  | [], _ => trivial
  | p :: r, h => by
    refine ⟨?_, ?_, Good.swp h.tail⟩
    · rcases h.1 with h1 | h1 | h1
      · exact .inl h1
      · exact .inr (.inr h1)
      · exact .inr (.inl h1)
    · intro q t he
      cases r with
      | nil => cases he
      | cons q' t' =>
        obtain ⟨h1, h2⟩ := h.2.1 q' t' rfl
        rw [List.map_cons] at he
        injection he with he1 he2
        subst he1
        exact ⟨h1.symm, h2⟩
theorem many_lay (ps : List Pt) : many 45 (lay (ps.map swp)) = many 43 (lay ps) ∧ many 43 (lay (ps.map swp)) = many 45 (lay ps) := by
  induction ps with
  | nil => exact ⟨rfl, rfl⟩
  | cons p r ih =>
    rw [List.map_cons, lay, lay, many_append, many_append, many_append, many_append, ih.1, ih.2, many_old, many_new, many_old, many_new]
    exact ⟨rfl, rfl⟩
/-- the same line by line; c, g: what came, and went, since a line stayed -/
def turnA : Ls → Ls → Ls → Ls
  | c, g, [] => mk 45 c ++ mk 43 g
  | c, g, x :: l => if sg x = 32 then (mk 45 c ++ mk 43 g) ++ x :: turnA [] [] l else if sg x = 43 then turnA (c ++ [x.tail]) g l else turnA c (g ++ [x.tail]) l
theorem turnA_stay : ∀ (l X : Ls), turnA [] [] (mk 32 l ++ X) = mk 32 l ++ turnA [] [] X
  | [], X => rfl
  | x :: l, X => by rw [mk_cons, List.cons_append, turnA, sg_mk, if_pos rfl, turnA_stay l]; rfl
theorem turnA_gone : ∀ (l X c g : Ls), turnA c g (mk 45 l ++ X) = turnA c (g ++ l) X
  | [], X, c, g => by simp [mk_nil]
  | x :: l, X, c, g => by rw [mk_cons, List.cons_append, turnA, sg_mk, if_neg (by decide), if_neg (by decide), turnA_gone l]; simp
theorem turnA_come : ∀ (l X c g : Ls), turnA c g (mk 43 l ++ X) = turnA (c ++ l) g X
  | [], X, c, g => by simp [mk_nil]
  | x :: l, X, c, g => by rw [mk_cons, List.cons_append, turnA, sg_mk, if_neg (by decide), if_pos rfl, turnA_come l]; simp
theorem turnA_shut {X : Ls} (h : Stay X) (c g : Ls) : turnA c g X = (mk 45 c ++ mk 43 g) ++ turnA [] [] X := by
  cases X with
  | nil => simp [turnA, mk_nil]
  | cons x l =>
    have hx : sg x = 32 := h
    rw [turnA, turnA, if_pos hx, if_pos hx]; simp [mk_nil]
theorem turnA_lay : ∀ (ps : List Pt), Good ps → turnA [] [] (lay ps) = lay (ps.map swp)
  | [], _ => rfl
  | p :: r, h => by
    rw [lay, layP, List.append_assoc, List.append_assoc, turnA_stay, turnA_gone, turnA_come, turnA_shut h.stay, turnA_lay r h.tail, List.map_cons, lay, layP, swp]
    simp
end Go.Proofs.Ytfmmececocilhaa.Hu
namespace Go.Proofs.Ytfmmececocilhaa.Hu
open Df

def hedits (h : Hk) : List Ed := edL h.a none h.lines
def hturn (h : Hk) : Hk := ⟨h.b, h.bn, h.a, h.an, turnA [] [] h.lines⟩
theorem hright_iff (h : Hk) : hright h = true ↔ okF false h.lines = true ∧ 0 ≤ h.a ∧ 0 ≤ h.b ∧ h.an = many 45 h.lines ∧ h.bn = many 43 h.lines := by
  unfold hright
  simp only [Bool.and_eq_true, decide_eq_true_eq]
  exact ⟨fun ⟨a, ⟨⟨b, c⟩, d⟩, e⟩ => ⟨a, b, c, d, e⟩, fun ⟨a, b, c, d, e⟩ => ⟨a, ⟨⟨b, c⟩, d⟩, e⟩⟩
/-- a right hunk by its parts -/
theorem hparts {h : Hk} (hr : hright h = true) : ∃ ps, Good ps ∧ h.lines = lay ps ∧ hedits h = edP h.a ps ∧ (hturn h).lines = lay (ps.map swp) ∧ hright (hturn h) = true ∧ hturn (hturn h) = h ∧ hedits (hturn h) = edP h.b (ps.map swp) := by
  obtain ⟨h1, h2, h3, h4, h5⟩ := (hright_iff h).1 hr
  obtain ⟨ps, hg, hl, _⟩ := parts_of _ _ h1
  have ht : (hturn h).lines = lay (ps.map swp) := by rw [hturn, hl, turnA_lay ps hg]
  refine ⟨ps, hg, hl, by rw [hedits, hl, edL_lay ps _ hg], ht, ?_, ?_, ?_⟩
  · rw [hright_iff, ht]
    refine ⟨okF_lay _ hg.swp, h3, h2, ?_, ?_⟩
    · rw [(many_lay ps).1, ← hl]; exact h5
    · rw [(many_lay ps).2, ← hl]; exact h4
  · cases h
    simp only [hturn] at ht ⊢
    rw [ht, turnA_lay _ hg.swp, swp_swp, ← hl]
  · rw [hedits, ht, edL_lay _ _ hg.swp]; rfl
theorem edP_swp_len : ∀ (ps : List Pt) (z z' : Int), (edP z (ps.map swp)).length = (edP z' ps).length
  | [], _, _ => rfl
  | p :: r, z, z' => by
    rw [List.map_cons, edP, edP, List.length_append, List.length_append, edP_swp_len r _ (z' + p.st.length + p.gn.length)]
    congr 1
    unfold emitZ swp
    have key : (((p.cm.length : Int) = 0 ∧ p.gn = []) ↔ ((p.gn.length : Int) = 0 ∧ p.cm = [])) := by
      constructor
      · rintro ⟨h1, h2⟩; exact ⟨by rw [h2]; rfl, List.eq_nil_of_length_eq_zero (by omega)⟩
      · rintro ⟨h1, h2⟩; exact ⟨by rw [h2]; rfl, List.eq_nil_of_length_eq_zero (by omega)⟩
    by_cases h : ((p.gn.length : Int) = 0 ∧ p.cm = [])
    · rw [if_pos h, if_pos (key.2 h)]
    · rw [if_neg h, if_neg fun k => h (key.1 k)]; rfl

/-- behind an edit -/
def fin (e : Ed) : Int := e.pos + e.del
/-- those behind a first edit that are in one hunk with it, and the others -/
def spl (r : Nat) : Ed → List Ed → List Ed × List Ed
  | _, [] => ([], [])
  | e, f :: l => if f.pos - fin e ≤ 2 * r then (f :: (spl r f l).1, (spl r f l).2) else ([], f :: l)
theorem spl_eq (r : Nat) : ∀ (l : List Ed) (e : Ed), (spl r e l).1 ++ (spl r e l).2 = l
  | [], _ => rfl
  | f :: l, e => by
    rw [spl]
    split
    · rw [List.cons_append, spl_eq r l f]
    · rfl
theorem spl_len (r : Nat) (l : List Ed) (e : Ed) : (spl r e l).1.length + (spl r e l).2.length = l.length := by
  have := congrArg List.length (spl_eq r l e)
  rwa [List.length_append] at this
def lastF : Int → List Ed → Int
  | z, [] => z
  | _, e :: l => lastF (fin e) l
theorem spl_gap (r : Nat) : ∀ (l : List Ed) (e : Ed) (f : Ed) (t : List Ed), (spl r e l).2 = f :: t → 2 * r < f.pos - lastF (fin e) (spl r e l).1
  | [], _, _, _, h => by cases h
  | f' :: l, e, f, t, h => by
    rw [spl] at h ⊢
    split at h
    · rename_i hc
      rw [if_pos hc, lastF]
      exact spl_gap r l f' f t h
    · rename_i hc
      rw [if_neg hc, lastF]
      simp only [List.cons.injEq] at h
      rw [← h.1]; omega
/-- a hunk's parts: lines from 'z' on -/
def pts (a : Ls) (r : Nat) : Nat → List Ed → List Pt
  | z, [] => if (a.drop z).take r = [] then [] else [⟨(a.drop z).take r, [], []⟩]
  | z, e :: g => ⟨(a.drop z).take (e.pos.toNat - z), (a.drop e.pos.toNat).take e.del.toNat, e.ins⟩ :: pts a r (e.pos.toNat + e.del.toNat) g
/-- with which line a hunk begins -/
def from_ (r : Nat) (e : Ed) : Nat := (e.pos - r).toNat
def oneH (a : Ls) (r : Nat) (more : Int) (g : List Ed) (z : Nat) : Hk :=
  ⟨z, many 45 (lay (pts a r z g)), z + more, many 43 (lay (pts a r z g)), lay (pts a r z g)⟩
def mkHs (a : Ls) (r : Nat) : Int → List Ed → List Hk
  | _, [] => []
  | more, e :: l => oneH a r more (e :: (spl r e l).1) (from_ r e) ::
      mkHs a r (more + ((oneH a r more (e :: (spl r e l).1) (from_ r e)).bn - (oneH a r more (e :: (spl r e l).1) (from_ r e)).an)) (spl r e l).2
termination_by _ l => l.length
decreasing_by
  have := spl_len r l e
  simp only [List.length_cons]
  omega
theorem right_app (n : Nat) : ∀ (g t : List Ed) (last : Int), right n last (g ++ t) = true → -1 ≤ last → right n last g = true ∧ right n (lastF last g) t = true ∧ last ≤ lastF last g ∧ (g ≠ [] → lastF last g ≤ n)
  | [], t, last, h, _ => ⟨rfl, h, Int.le_refl _, fun h => absurd rfl h⟩
  | e :: g, t, last, h, hl => by
    obtain ⟨p, d, ep, ed, hpd, hlp, hne, hr⟩ := right_head h hl
    obtain ⟨k1, k2, k3, k4⟩ := right_app n g t _ hr (by omega)
    have hf : fin e = ((p + d : Nat) : Int) := by unfold fin; rw [ep, ed]; omega
    rw [lastF, hf]
    refine ⟨?_, k2, by omega, fun _ => ?_⟩
    · rw [List.cons_append, right_cons] at h
      rw [right_cons]
      refine ⟨h.1, ?_⟩
      rw [ep, ed]
      exact k1
    · cases g with
      | nil => rw [lastF]; omega
      | cons _ _ => exact k4 (by simp)
theorem pts_good (a : Ls) (r : Nat) : ∀ (g : List Ed) (z : Nat) (last : Int), right a.length last g = true → -1 ≤ last → (z : Int) ≤ last + 1 ∨ (∀ e t, g = e :: t → (z : Int) ≤ e.pos) → z ≤ a.length →
    Good (pts a r z g) ∧ ((z : Int) = last → ∀ q t, pts a r z g = q :: t → q.st ≠ [])
  | [], z, last, _, _, _, hz => by
    rw [pts]
    split
    · exact ⟨trivial, fun _ q t h => by cases h⟩
    · rename_i h
      exact ⟨⟨.inl h, (fun q t h => by cases h), trivial⟩, fun _ q t h' => by cases h'; exact h⟩
  | e :: g, z, last, hr, hl, hzl, hz => by
    obtain ⟨p, d, ep, ed, hpd, hlp, hne, hr'⟩ := right_head hr hl
    obtain ⟨k1, k2⟩ := pts_good a r g (p + d) _ hr' (by omega) (.inl (by omega)) hpd
    have hzp : z ≤ p := by
      rcases hzl with h | h
      · omega
      · have := h e g rfl; omega
    rw [pts, ep, ed]
    simp only [Int.toNat_natCast]
    have hgc : (a.drop p).take d ≠ [] ∨ e.ins ≠ [] := by
      rcases hne with h | h
      · left
        intro h0
        have := congrArg List.length h0
        rw [List.length_take, List.length_drop, List.length_nil] at this
        omega
      · exact .inr h
    refine ⟨⟨?_, fun q t h => ⟨hgc, k2 rfl q t h⟩, k1⟩, fun hzl q t h => ?_⟩
    · rcases hgc with h | h
      · exact .inr (.inl h)
      · exact .inr (.inr h)
    · injection h with h1 _
      rw [← h1]
      intro h0
      have := congrArg List.length h0
      simp only [List.length_take, List.length_drop, List.length_nil] at this
      omega
theorem pts_edits (a : Ls) (r : Nat) : ∀ (g : List Ed) (z : Nat) (last : Int), right a.length last g = true → -1 ≤ last → (z : Int) ≤ last + 1 ∨ (∀ e t, g = e :: t → (z : Int) ≤ e.pos) → edP z (pts a r z g) = g
  | [], z, last, _, _, _ => by
    rw [pts]
    split
    · rfl
    · rw [edP, edP, emitZ, if_pos ⟨rfl, rfl⟩]; rfl
  | e :: g, z, last, hr, hl, hzl => by
    obtain ⟨p, d, ep, ed, hpd, hlp, hne, hr'⟩ := right_head hr hl
    have ih := pts_edits a r g (p + d) _ hr' (by omega) (.inl (by omega))
    have hzp : z ≤ p := by
      rcases hzl with h | h
      · omega
      · have := h e g rfl; omega
    rw [pts, ep, ed]
    simp only [Int.toNat_natCast]
    rw [edP]
    simp only [List.length_take, List.length_drop]
    rw [show min (p - z) (a.length - z) = p - z by omega, show min d (a.length - p) = d by omega, show (z : Int) + ((p - z : Nat) : Int) = (p : Int) by omega, show (p : Int) + (d : Int) = ((p + d : Nat) : Int) by omega, ih, emitZ, if_neg]
    · obtain ⟨p', d', i⟩ := e
      simp only at ep ed
      subst ep ed
      rfl
    · rintro ⟨h1, h2⟩
      rcases hne with h | h
      · omega
      · exact h h2
def delta : List Ed → Int
  | [] => 0
  | e :: g => e.ins.length - e.del + delta g
theorem delta_append : ∀ g t : List Ed, delta (g ++ t) = delta g + delta t
  | [], t => by simp [delta]
  | e :: g, t => by rw [List.cons_append, delta, delta, delta_append g t]; omega
theorem turn_append (a : Ls) : ∀ (g t : List Ed) (more : Int), turn a more (g ++ t) = turn a more g ++ turn a (more + delta g) t
  | [], t, more => by simp [turn, delta]
  | e :: g, t, more => by
    rw [List.cons_append, turn, turn, turn_append a g t, delta, List.cons_append]
    congr 3
    omega
theorem pts_turn (a : Ls) (r : Nat) : ∀ (g : List Ed) (z : Nat) (last more : Int), right a.length last g = true → -1 ≤ last → (z : Int) ≤ last + 1 ∨ (∀ e t, g = e :: t → (z : Int) ≤ e.pos) → edP (z + more) ((pts a r z g).map swp) = turn a more g
  | [], z, last, more, _, _, _ => by
    rw [pts]
    split
    · rfl
    · rw [List.map_cons, edP, swp, emitZ, if_pos ⟨rfl, rfl⟩]; rfl
  | e :: g, z, last, more, hr, hl, hzl => by
    obtain ⟨p, d, ep, ed, hpd, hlp, hne, hr'⟩ := right_head hr hl
    have ih := pts_turn a r g (p + d) _ (more + e.ins.length - d) hr' (by omega) (.inl (by omega))
    have hzp : z ≤ p := by
      rcases hzl with h | h
      · omega
      · have := h e g rfl; omega
    rw [pts, turn, ep, ed]
    simp only [Int.toNat_natCast]
    rw [List.map_cons, edP, swp]
    have hld : ((a.drop p).take d).length = d := by rw [List.length_take, List.length_drop]; omega
    have hls : ((a.drop z).take (p - z)).length = p - z := by rw [List.length_take, List.length_drop]; omega
    simp only [hls]
    rw [show (z : Int) + more + ((p - z : Nat) : Int) = p + more by omega, show (p : Int) + more + (e.ins.length : Int) = ((p + d : Nat) : Int) + (more + e.ins.length - d) by omega, ih, emitZ, if_neg]
    · rfl
    · rintro ⟨h1, h2⟩
      rcases hne with h | h
      · rw [h2] at hld; exact h hld.symm
      · exact h (List.eq_nil_of_length_eq_zero (by omega))
/-- how many lines a hunk has of the old ones -/
theorem pts_old (a : Ls) (r : Nat) : ∀ (g : List Ed) (z : Nat) (last : Int), right a.length last g = true → -1 ≤ last → (z : Int) ≤ last + 1 ∨ (∀ e t, g = e :: t → (z : Int) ≤ e.pos) → z ≤ a.length →
    (many 45 (lay (pts a r z g)) : Int) = min (lastF z g + r) a.length - z
  | [], z, last, _, _, _, hz => by
    rw [pts, lastF]
    split
    · rename_i h
      have := congrArg List.length h
      rw [List.length_take, List.length_drop, List.length_nil] at this
      simp only [lay, many]
      omega
    · simp only [lay, List.append_nil, many_old, List.length_take, List.length_drop, List.length_nil]
      omega
  | e :: g, z, last, hr, hl, hzl, hz => by
    obtain ⟨p, d, ep, ed, hpd, hlp, hne, hr'⟩ := right_head hr hl
    have ih := pts_old a r g (p + d) _ hr' (by omega) (.inl (by omega)) hpd
    have hzp : z ≤ p := by
      rcases hzl with h | h
      · omega
      · have := h e g rfl; omega
    have hf : fin e = ((p + d : Nat) : Int) := by unfold fin; rw [ep, ed]; omega
    rw [pts, lastF, hf, ep, ed]
    simp only [Int.toNat_natCast]
    rw [lay, many_append, many_old]
    simp only [List.length_take, List.length_drop]
    omega
theorem pts_delta (a : Ls) (r : Nat) : ∀ (g : List Ed) (z : Nat) (last : Int), right a.length last g = true → -1 ≤ last →
    (many 43 (lay (pts a r z g)) : Int) - many 45 (lay (pts a r z g)) = delta g
  | [], z, last, _, _ => by
    rw [pts, delta]
    split
    · simp [lay, many]
    · simp only [lay, List.append_nil, many_old, many_new, List.length_nil]; omega
  | e :: g, z, last, hr, hl => by
    obtain ⟨p, d, ep, ed, hpd, hlp, hne, hr'⟩ := right_head hr hl
    have ih := pts_delta a r g (p + d) _ hr' (by omega)
    rw [pts, delta, ep, ed]
    simp only [Int.toNat_natCast]
    rw [lay, many_append, many_append, many_old, many_new]
    simp only [List.length_take, List.length_drop]
    omega
end Go.Proofs.Ytfmmececocilhaa.Hu
namespace Go.Proofs.Ytfmmececocilhaa.Hu
open Df

theorem lastF_delta (n : Nat) : ∀ (g : List Ed) (last z : Int), right n last g = true → -1 ≤ last → z ≤ last + 1 → z ≤ lastF z g + delta g
  | [], _, z, _, _, _ => by simp [lastF, delta]
  | e :: g, last, z, hr, hl, hz => by
    obtain ⟨p, d, ep, ed, hpd, hlp, hne, hr'⟩ := right_head hr hl
    have hf : fin e = ((p + d : Nat) : Int) := by unfold fin; rw [ep, ed]; omega
    have := lastF_delta n g _ ((p + d : Nat) : Int) hr' (by omega) (by omega)
    rw [lastF, delta, hf, ed]
    omega
theorem mkHs_cons (a : Ls) (r : Nat) (more : Int) (e : Ed) (l : List Ed) : mkHs a r more (e :: l) = oneH a r more (e :: (spl r e l).1) (from_ r e) ::
      mkHs a r (more + ((oneH a r more (e :: (spl r e l).1) (from_ r e)).bn - (oneH a r more (e :: (spl r e l).1) (from_ r e)).an)) (spl r e l).2 := by rw [mkHs]
theorem mkHs_nil (a : Ls) (r : Nat) (more : Int) : mkHs a r more [] = [] := by rw [mkHs]
theorem from_le (r : Nat) (e : Ed) (p : Nat) (h : e.pos = p) : from_ r e ≤ p := by unfold from_; omega
/-- a hunk of right edits -/
theorem one_facts (a : Ls) (r : Nat) (more : Int) (e : Ed) (g : List Ed) (last : Int) (hr : right a.length last (e :: g) = true) (hl : -1 ≤ last) (hb : 0 ≤ (from_ r e : Int) + more) :
    hright (oneH a r more (e :: g) (from_ r e)) = true ∧ hedits (oneH a r more (e :: g) (from_ r e)) = e :: g ∧ hedits (hturn (oneH a r more (e :: g) (from_ r e))) = turn a more (e :: g) ∧
      ((oneH a r more (e :: g) (from_ r e)).bn - (oneH a r more (e :: g) (from_ r e)).an = delta (e :: g)) ∧ (from_ r e : Int) + (oneH a r more (e :: g) (from_ r e)).an = min (lastF (fin e) g + r) a.length := by
  obtain ⟨p, d, ep, ed, hpd, hlp, hne, hr'⟩ := right_head hr hl
  have hf := from_le r e p ep
  have hz : ((from_ r e : Nat) : Int) ≤ last + 1 ∨ (∀ e' t, e :: g = e' :: t → ((from_ r e : Nat) : Int) ≤ e'.pos) := by
    refine .inr fun e' t h => ?_
    injection h with h1 _
    subst h1
    rw [ep]; omega
  obtain ⟨hg, _⟩ := pts_good a r (e :: g) (from_ r e) last hr hl hz (by omega)
  have hright' : hright (oneH a r more (e :: g) (from_ r e)) = true := by
    rw [hright_iff]
    exact ⟨okF_lay _ hg, by simp [oneH], by simpa [oneH] using hb, rfl, rfl⟩
  refine ⟨hright', ?_, ?_, ?_, ?_⟩
  · rw [hedits, oneH, edL_lay _ _ hg]
    exact pts_edits a r (e :: g) (from_ r e) last hr hl hz
  · rw [hedits, hturn, oneH]
    simp only
    rw [turnA_lay _ hg, edL_lay _ _ hg.swp]
    exact pts_turn a r (e :: g) (from_ r e) last more hr hl hz
  · exact pts_delta a r (e :: g) (from_ r e) last hr hl
  · have := pts_old a r (e :: g) (from_ r e) last hr hl hz (by omega)
    rw [lastF] at this
    simp only [oneH]
    omega
theorem mk_facts (a : Ls) (r : Nat) : ∀ (k : Nat) (l : List Ed) (more last e0 : Int), l.length ≤ k → right a.length last l = true → -1 ≤ last → 0 ≤ e0 → e0 ≤ last + 1 → (∀ e t, l = e :: t → e0 ≤ from_ r e) → 0 ≤ e0 + more →
    (∀ h ∈ mkHs a r more l, hright h = true) ∧ (mkHs a r more l).flatMap hedits = l ∧ (mkHs a r more l).flatMap (fun h => hedits (hturn h)) = turn a more l
  | _, [], more, _, _, _, _, _, _, _, _, _ => by
    rw [mkHs_nil]
    exact ⟨(fun h hh => by cases hh), rfl, rfl⟩
  | 0, e :: l, _, _, _, h, _, _, _, _, _, _ => by simp at h
  | k + 1, e :: l, more, last, e0, hk, hr, hl, he0, hel, hgap, hb => by
    have hsp := spl_eq r l e
    have hsl := spl_len r l e
    have hsg := spl_gap r l e
    obtain ⟨g, hg⟩ : ∃ g, g = (spl r e l).1 := ⟨_, rfl⟩
    obtain ⟨t, ht⟩ : ∃ t, t = (spl r e l).2 := ⟨_, rfl⟩
    rw [mkHs_cons, ← hg, ← ht]
    rw [← hg, ← ht] at hsp hsl hsg
    have hr2 : right a.length last ((e :: g) ++ t) = true := by rw [List.cons_append, hsp]; exact hr
    obtain ⟨r1, r2, r3, r4⟩ := right_app a.length (e :: g) t last hr2 hl
    have hge := hgap e l rfl
    obtain ⟨f1, f2, f3, f4, f5⟩ := one_facts a r more e g last r1 hl (by omega)
    rw [f4]
    have hld := lastF_delta a.length (e :: g) last e0 r1 hl hel
    rw [lastF] at hld r2 r3 r4
    simp only [List.length_cons] at hk
    have hl0 : 0 ≤ lastF (fin e) g := by
      obtain ⟨p, d, ep, ed, hpd, hlp, hne, hr'⟩ := right_head r1 hl
      have hf : fin e = ((p + d : Nat) : Int) := by unfold fin; rw [ep, ed]; omega
      have := (right_app a.length g [] _ (by rw [List.append_nil]; exact hr') (by omega)).2.2.1
      rw [hf]; omega
    have ih := mk_facts a r k t (more + delta (e :: g)) _ (lastF (fin e) g) (by omega) r2 (by omega) (by omega) (by omega) (fun f t' h => by
      have := hsg f t' h
      unfold from_
      omega) (by omega)
    obtain ⟨i1, i2, i3⟩ := ih
    refine ⟨fun h hh => ?_, ?_, ?_⟩
    · rcases List.mem_cons.1 hh with rfl | hh
      · exact f1
      · exact i1 h hh
    · rw [List.flatMap_cons, f2, i2, List.cons_append, hsp]
    · rw [List.flatMap_cons, f3, i3, ← turn_append, List.cons_append, hsp]
/-- hunks rise and are apart, up to n; b: is there one ahead that ends at e? -/
def rise (n : Int) : Bool → Int → List Hk → Prop
  | _, e, [] => e ≤ n
  | b, e, h :: t => e ≤ h.a ∧ (b = true → e ≠ h.a) ∧ rise n true (h.a + h.an) t
theorem mk_rise (a : Ls) (r : Nat) : ∀ (k : Nat) (l : List Ed) (more last e0 : Int) (b : Bool), l.length ≤ k → right a.length last l = true → -1 ≤ last → e0 ≤ a.length → (∀ e t, l = e :: t → e0 ≤ from_ r e ∧ (b = true → e0 ≠ from_ r e)) → 0 ≤ last + 1 + more →
    rise a.length b e0 (mkHs a r more l)
  | _, [], more, _, _, _, _, _, _, h, _, _ => by
    rw [mkHs_nil]
    exact h
  | 0, e :: l, _, _, _, _, h, _, _, _, _, _ => by simp at h
  | k + 1, e :: l, more, last, e0, b, hk, hr, hl, he0, hgap, hb => by
    have hsp := spl_eq r l e
    have hsl := spl_len r l e
    have hsg := spl_gap r l e
    obtain ⟨g, hg⟩ : ∃ g, g = (spl r e l).1 := ⟨_, rfl⟩
    obtain ⟨t, ht⟩ : ∃ t, t = (spl r e l).2 := ⟨_, rfl⟩
    rw [mkHs_cons, ← hg, ← ht]
    rw [← hg, ← ht] at hsp hsl hsg
    have hr2 : right a.length last ((e :: g) ++ t) = true := by rw [List.cons_append, hsp]; exact hr
    obtain ⟨r1, r2, r3, r4⟩ := right_app a.length (e :: g) t last hr2 hl
    obtain ⟨hge, hgn⟩ := hgap e l rfl
    obtain ⟨p, d, ep, ed, hpd, hlp, hne, hr'⟩ := right_head hr hl
    have hz : ((from_ r e : Nat) : Int) ≤ last + 1 ∨ (∀ e' t, e :: g = e' :: t → ((from_ r e : Nat) : Int) ≤ e'.pos) := by
      refine .inr fun e' t h => ?_
      injection h with h1 _
      subst h1
      have := from_le r e p ep
      rw [ep]; omega
    have f4 := pts_delta a r (e :: g) (from_ r e) last r1 hl
    have f5 := pts_old a r (e :: g) (from_ r e) last r1 hl hz (by have := from_le r e p ep; omega)
    have hld := lastF_delta a.length (e :: g) last (last + 1) r1 hl (Int.le_refl _)
    rw [lastF] at hld r2 r3 f5
    simp only [List.length_cons] at hk
    refine ⟨hge, hgn, ?_⟩
    simp only [oneH]
    rw [f4]
    refine mk_rise a r k t (more + delta (e :: g)) _ _ true (by omega) r2 (by omega) (by omega) (fun f t' h => ?_) (by omega)
    have := hsg f t' h
    unfold from_ at *
    exact ⟨by omega, fun _ => by omega⟩
/-- how often edits are far apart -/
def gaps (r : Nat) : Ed → List Ed → Nat
  | _, [] => 0
  | e, f :: l => (if f.pos - fin e ≤ 2 * r then 0 else 1) + gaps r f l
theorem spl_gaps (r : Nat) : ∀ (l : List Ed) (e : Ed), gaps r e l = match (spl r e l).2 with | [] => 0 | f :: t => 1 + gaps r f t
  | [], _ => rfl
  | f :: l, e => by
    rw [gaps, spl]
    by_cases h : f.pos - fin e ≤ 2 * r
    · rw [if_pos h, if_pos h, Nat.zero_add]; exact spl_gaps r l f
    · rw [if_neg h, if_neg h]
theorem mk_count (a : Ls) (r : Nat) : ∀ (k : Nat) (l : List Ed) (e : Ed) (more : Int), l.length ≤ k → (mkHs a r more (e :: l)).length = 1 + gaps r e l
  | k, l, e, more, hk => by
    rw [mkHs_cons, List.length_cons, spl_gaps]
    have hsl := spl_len r l e
    obtain ⟨t, ht⟩ : ∃ t, t = (spl r e l).2 := ⟨_, rfl⟩
    rw [← ht] at hsl ⊢
    cases t with
    | nil => rw [mkHs_nil]; rfl
    | cons f t =>
      cases k with
      | zero => simp at hsl; omega
      | succ k =>
        rw [mk_count a r k t f _ (by simp at hsl; omega)]
        show 1 + gaps r f t + 1 = 1 + (1 + gaps r f t)
        omega
theorem gaps_mono (r r' : Nat) (h : r ≤ r') : ∀ (l : List Ed) (e : Ed), gaps r' e l ≤ gaps r e l
  | [], _ => Nat.le_refl _
  | f :: l, e => by
    have := gaps_mono r r' h l f
    rw [gaps, gaps]
    split <;> split <;> omega
theorem mk_fewer (a : Ls) (r r' : Nat) (h : r ≤ r') (l : List Ed) : (mkHs a r' 0 l).length ≤ (mkHs a r 0 l).length := by
  cases l with
  | nil => rw [mkHs_nil, mkHs_nil]; exact Nat.le_refl _
  | cons e l =>
    rw [mk_count a r' _ l e _ (Nat.le_refl _), mk_count a r _ l e _ (Nat.le_refl _)]
    have := gaps_mono r r' h l e
    omega
theorem mk_none (a : Ls) (r : Nat) (more : Int) (l : List Ed) : ((mkHs a r more l).length = 0) ↔ l.length = 0 := by
  cases l with
  | nil => rw [mkHs_nil]; simp
  | cons e l => rw [mk_count a r _ l e _ (Nat.le_refl _)]; simp
theorem mk_le (a : Ls) (r : Nat) (more : Int) (l : List Ed) : (mkHs a r more l).length ≤ l.length := by
  cases l with
  | nil => rw [mkHs_nil]; exact Nat.le_refl _
  | cons e l =>
    rw [mk_count a r _ l e _ (Nat.le_refl _), List.length_cons]
    have : ∀ (l : List Ed) (e : Ed), gaps r e l ≤ l.length := by
      intro l
      induction l with
      | nil => intro e; exact Nat.le_refl _
      | cons f l ih => intro e; have := ih f; rw [gaps, List.length_cons]; split <;> omega
    have := this l e
    omega
/-- all of it, from the start -/
theorem mk_start (a : Ls) (r : Nat) (l : List Ed) (hr : right a.length (-1) l = true) :
    (∀ h ∈ mkHs a r 0 l, hright h = true) ∧ (mkHs a r 0 l).flatMap hedits = l ∧ (mkHs a r 0 l).flatMap (fun h => hedits (hturn h)) = turn a 0 l ∧ rise a.length false 0 (mkHs a r 0 l) := by
  obtain ⟨h1, h2, h3⟩ := mk_facts a r _ l 0 (-1) 0 (Nat.le_refl _) hr (by omega) (by omega) (by omega) (fun e t _ => by omega) (by omega)
  exact ⟨h1, h2, h3, mk_rise a r _ l 0 (-1) 0 false (Nat.le_refl _) hr (by omega) (by omega) (fun e t _ => ⟨by omega, fun h => by cases h⟩) (by omega)⟩
/-- how many lines a hunk has -/
theorem pts_len (a : Ls) (r : Nat) : ∀ (g : List Ed) (z : Nat) (last : Int), right a.length last g = true → -1 ≤ last → z ≤ a.length → (lay (pts a r z g)).length ≤ many 45 (lay (pts a r z g)) + size g
  | [], z, _, _, _, _ => by
    rw [pts, size]
    split
    · simp [lay, many]
    · simp only [lay, List.append_nil]
      rw [many_old, layP, List.length_append, List.length_append, mk_len, mk_len, mk_len]
      simp
  | e :: g, z, last, hr, hl, hz => by
    obtain ⟨p, d, ep, ed, hpd, hlp, hne, hr'⟩ := right_head hr hl
    have ih := pts_len a r g (p + d) _ hr' (by omega) hpd
    rw [pts, ep, ed]
    simp only [Int.toNat_natCast]
    rw [lay, many_append, many_old, layP, size, ed]
    simp only [List.length_append, mk_len, List.length_take, List.length_drop]
    omega
end Go.Proofs.Ytfmmececocilhaa.Hu
namespace Go.Proofs.Ytfmmececocilhaa.Ap
open Df Hu

/-- what a hunk's lines are on the old side, and on the new one -/
def oldL (l : Ls) : Ls := (l.filter fun x => decide (sg x ≠ 43)).map List.tail
def newL (l : Ls) : Ls := (l.filter fun x => decide (sg x ≠ 45)).map List.tail
theorem oldL_cons (x : List UInt8) (l : Ls) : oldL (x :: l) = if sg x = 43 then oldL l else x.tail :: oldL l := by
  unfold oldL
  by_cases h : sg x = 43 <;> simp [h]
theorem newL_cons (x : List UInt8) (l : Ls) : newL (x :: l) = if sg x = 45 then newL l else x.tail :: newL l := by
  unfold newL
  by_cases h : sg x = 45 <;> simp [h]
theorem oldL_append (l r : Ls) : oldL (l ++ r) = oldL l ++ oldL r := by simp [oldL]
theorem newL_append (l r : Ls) : newL (l ++ r) = newL l ++ newL r := by simp [newL]
theorem old_len : ∀ (l : Ls) (p : Bool), okF p l = true → (oldL l).length = many 45 l
  | [], _, _ => rfl
  | x :: l, p, h => by
    obtain ⟨⟨h1, _⟩, h3⟩ := (okF_cons p x l).1 h
    have ih := old_len l _ h3
    rw [oldL_cons, many]
    rcases h1 with h1 | h1 | h1 <;> simp [h1, ih, Nat.add_comm]
theorem new_len : ∀ (l : Ls) (p : Bool), okF p l = true → (newL l).length = many 43 l
  | [], _, _ => rfl
  | x :: l, p, h => by
    obtain ⟨⟨h1, _⟩, h3⟩ := (okF_cons p x l).1 h
    have ih := new_len l _ h3
    rw [newL_cons, many]
    rcases h1 with h1 | h1 | h1 <;> simp [h1, ih, Nat.add_comm]
theorem oldL_mk (s : UInt8) (l : Ls) : oldL (mk s l) = if s = 43 then [] else l := by
  induction l with
  | nil => rw [mk_nil]; split <;> rfl
  | cons x l ih => rw [mk_cons, oldL_cons, sg_mk, ih]; split <;> rfl
theorem newL_mk (s : UInt8) (l : Ls) : newL (mk s l) = if s = 45 then [] else l := by
  induction l with
  | nil => rw [mk_nil]; split <;> rfl
  | cons x l ih => rw [mk_cons, newL_cons, sg_mk, ih]; split <;> rfl
theorem oldL_layP (p : Pt) : oldL (layP p) = p.st ++ p.gn := by
  rw [layP, oldL_append, oldL_append, oldL_mk, oldL_mk, oldL_mk]; simp
theorem newL_layP (p : Pt) : newL (layP p) = p.st ++ p.cm := by
  rw [layP, newL_append, newL_append, newL_mk, newL_mk, newL_mk]; simp
theorem swp_lay : ∀ ps : List Pt, oldL (lay (ps.map swp)) = newL (lay ps) ∧ newL (lay (ps.map swp)) = oldL (lay ps)
  | [] => ⟨rfl, rfl⟩
  | p :: r => by
    obtain ⟨h1, h2⟩ := swp_lay r
    rw [List.map_cons, lay, lay, oldL_append, newL_append, oldL_append, newL_append, h1, h2, oldL_layP, newL_layP, oldL_layP, newL_layP]
    exact ⟨rfl, rfl⟩

/-- a hunk's lines done to the lines that are left; out: what came of those ahead -/
def doL : Ls → Ls → Ls → Option (Ls × Ls)
  | r, out, [] => some (r, out)
  | r, out, x :: l => if sg x = 43 then doL r (out ++ [x.tail]) l else if r.head? = some x.tail then doL r.tail (if sg x = 45 then out else out ++ [x.tail]) l else none
theorem doL_yes : ∀ (l r out : Ls), doL (oldL l ++ r) out l = some (r, out ++ newL l)
  | [], r, out => by simp [doL, oldL, newL]
  | x :: l, r, out => by
    rw [oldL_cons, newL_cons, doL]
    by_cases h : sg x = 43
    · rw [if_pos h, if_pos h, if_neg (by rw [h]; decide), doL_yes l]; simp
    · rw [if_neg h, if_neg h, List.cons_append, List.head?_cons, if_pos rfl, List.tail_cons, doL_yes l]
      by_cases h2 : sg x = 45
      · rw [if_pos h2, if_pos h2]
      · rw [if_neg h2, if_neg h2]; simp
theorem doL_some : ∀ (l r out r' out' : Ls), doL r out l = some (r', out') → r = oldL l ++ r' ∧ out' = out ++ newL l
  | [], r, out, r', out', h => by
    rw [doL] at h
    injection h with h
    injection h with h1 h2
    exact ⟨by simp [oldL, h1], by simp [newL, h2]⟩
  | x :: l, r, out, r', out', h => by
    rw [doL] at h
    rw [oldL_cons, newL_cons]
    by_cases h1 : sg x = 43
    · rw [if_pos h1] at h ⊢
      obtain ⟨h2, h3⟩ := doL_some l _ _ _ _ h
      rw [if_neg (by rw [h1]; decide)]
      exact ⟨h2, by rw [h3]; simp⟩
    · rw [if_neg h1] at h ⊢
      by_cases h2 : r.head? = some x.tail
      · rw [if_pos h2] at h
        obtain ⟨h3, h4⟩ := doL_some l _ _ _ _ h
        cases r with
        | nil => cases h2
        | cons y r =>
          obtain rfl : y = x.tail := Option.some.inj h2
          refine ⟨congrArg (x.tail :: ·) h3, ?_⟩
          rw [h4]
          by_cases h5 : sg x = 45
          · rw [if_pos h5, if_pos h5]
          · rw [if_neg h5, if_neg h5]; simp
      · rw [if_neg h2] at h; cases h
/-- hunks done to the lines from 'at' on -/
def doH : Nat → Ls → Ls → List Hk → Option Ls
  | _, r, out, [] => some (out ++ r)
  | z, r, out, h :: t => if h.a.toNat - z ≤ r.length then match doL (r.drop (h.a.toNat - z)) (out ++ r.take (h.a.toNat - z)) h.lines with
      | none => none
      | some (r', out') => doH (h.a.toNat + (oldL h.lines).length) r' out' t
    else none
def Does : Nat → Ls → List Hk → Ls → Prop
  | _, r, [], x => x = r
  | z, r, h :: t, x => ∃ u r' x' : Ls, u.length = h.a.toNat - z ∧ r = u ++ (oldL h.lines ++ r') ∧ x = u ++ (newL h.lines ++ x') ∧ Does (h.a.toNat + (oldL h.lines).length) r' t x'
theorem doH_some : ∀ (l : List Hk) (z : Nat) (r out y : Ls), doH z r out l = some y ↔ ∃ x, Does z r l x ∧ y = out ++ x
  | [], z, r, out, y => by
    rw [doH]
    constructor
    · intro h; injection h with h; exact ⟨r, rfl, h.symm⟩
    · rintro ⟨x, h, rfl⟩; rw [show x = r from h]
  | h :: t, z, r, out, y => by
    rw [doH]
    constructor
    · intro hd
      split at hd
      · rename_i hk
        split at hd
        · cases hd
        · rename_i r' out' hL
          obtain ⟨h1, h2⟩ := doL_some _ _ _ _ _ hL
          obtain ⟨x, h3, h4⟩ := (doH_some t _ _ _ _).1 hd
          refine ⟨r.take (h.a.toNat - z) ++ (newL h.lines ++ x), ⟨r.take (h.a.toNat - z), r', x, by rw [List.length_take]; omega, ?_, rfl, h3⟩, ?_⟩
          · rw [← h1, List.take_append_drop]
          · rw [h4, h2]; simp
      · cases hd
    · rintro ⟨x, ⟨u, r', x', h1, rfl, rfl, h4⟩, rfl⟩
      rw [if_pos (by rw [List.length_append]; omega), ← h1, List.drop_left, List.take_left, doL_yes]
      simp only
      rw [(doH_some t _ _ _ _).2 ⟨x', h4, rfl⟩]
      simp
theorem doH_none {l : List Hk} {z : Nat} {r out : Ls} (h : ∀ x, ¬ Does z r l x) : doH z r out l = none := by
  cases hd : doH z r out l with
  | none => rfl
  | some y =>
    obtain ⟨x, h1, _⟩ := (doH_some l z r out y).1 hd
    exact absurd h1 (h x)

/-- are hunks right, one behind the other? e: where the one ahead ends, m: what those ahead have more -/
def okL : Int → Int → List Hk → Bool
  | _, _, [] => true
  | e, m, h :: t => (hright h && (decide (h.b - h.a = m) && decide (e ≤ h.a))) && okL (h.a + h.an) (m + (h.bn - h.an)) t
theorem okL_cons {e m : Int} {h : Hk} {t : List Hk} : okL e m (h :: t) = true ↔ (hright h = true ∧ h.b - h.a = m ∧ e ≤ h.a) ∧ okL (h.a + h.an) (m + (h.bn - h.an)) t = true := by
  rw [okL, Bool.and_eq_true, Bool.and_eq_true, Bool.and_eq_true, decide_eq_true_iff, decide_eq_true_iff]
/-- what lines become, and why not -/
def appl (a : Ls) (l : List Hk) : Ls × Nat := if okL 0 0 l then match doH 0 a [] l with
    | some x => (x, 0)
    | none => ([], 6)
  else ([], 3)
theorem appl_yes {a x : Ls} {l : List Hk} (h : okL 0 0 l = true) (hd : Does 0 a l x) : appl a l = (x, 0) := by
  rw [appl, if_pos h, (doH_some l 0 a [] x).2 ⟨x, hd, rfl⟩]
theorem appl_no {a : Ls} {l : List Hk} (h : okL 0 0 l = true) (hd : ∀ x, ¬ Does 0 a l x) : appl a l = ([], 6) := by
  rw [appl, if_pos h, doH_none hd]
theorem appl_ok {a x : Ls} {l : List Hk} (h : appl a l = (x, 0)) : okL 0 0 l = true ∧ Does 0 a l x := by
  unfold appl at h
  split at h
  · rename_i ho
    split at h
    · rename_i y hy
      injection h with h _
      subst h
      obtain ⟨x, h1, h2⟩ := (doH_some l 0 a [] y).1 hy
      rw [h2]
      exact ⟨ho, h1⟩
    · cases h
  · cases h
theorem right_facts {h : Hk} (hr : hright h = true) : ((oldL h.lines).length : Int) = h.an ∧ ((newL h.lines).length : Int) = h.bn ∧ 0 ≤ h.a ∧ 0 ≤ h.b ∧ oldL (hturn h).lines = newL h.lines ∧ newL (hturn h).lines = oldL h.lines := by
  obtain ⟨h1, h2, h3, h4, h5⟩ := (hright_iff h).1 hr
  obtain ⟨ps, _, hl, _, ht, _⟩ := hparts hr
  obtain ⟨k1, k2⟩ := swp_lay ps
  refine ⟨by rw [old_len _ _ h1, h4], by rw [new_len _ _ h1, h5], h2, h3, ?_, ?_⟩
  · rw [ht, hl]; exact k1
  · rw [ht, hl]; exact k2
/-- the other way round they lead back -/
theorem does_turn : ∀ (l : List Hk) (e m : Int) (z z' : Nat) (r x : Ls), okL e m l = true → (z : Int) = e → (z' : Int) = e + m → Does z r l x → Does z' x (l.map hturn) r
  | [], _, _, _, _, r, x, _, _, _, h => by rw [show x = r from h]; exact Eq.refl r
  | h :: t, e, m, z, z', r, x, ho, hz, hz', hd => by
    obtain ⟨⟨h1, h2, h3⟩, h4⟩ := okL_cons.1 ho
    obtain ⟨k1, k2, k3, k4, k5, k6⟩ := right_facts h1
    obtain ⟨u, r', x', d1, d2, d3, d4⟩ := hd
    have ih := does_turn t _ _ _ (h.b.toNat + (newL h.lines).length) r' x' h4 (by omega) (by omega) d4
    refine ⟨u, x', r', ?_, ?_, ?_, ?_⟩
    · rw [d1]; show h.a.toNat - z = h.b.toNat - z'; omega
    · rw [k5]; exact d3
    · rw [k6]; exact d2
    · rw [k5]; exact ih
theorem okL_turn : ∀ (l : List Hk) (e m : Int), okL e m l = true → okL (e + m) (-m) (l.map hturn) = true
  | [], _, _, _ => rfl
  | h :: t, e, m, ho => by
    obtain ⟨⟨h1, h2, h3⟩, h4⟩ := okL_cons.1 ho
    have ih := okL_turn t _ _ h4
    obtain ⟨_, _, _, _, _, ht, _⟩ := hparts h1
    rw [List.map_cons, okL_cons]
    refine ⟨⟨ht, ?_, ?_⟩, ?_⟩
    · show h.a - h.b = -m; omega
    · show e + m ≤ h.b; omega
    · show okL (h.b + h.bn) (-m + (h.an - h.bn)) (t.map hturn) = true
      have e1 : h.b + h.bn = h.a + h.an + (m + (h.bn - h.an)) := by omega
      have e2 : -m + (h.an - h.bn) = -(m + (h.bn - h.an)) := by omega
      rw [e1, e2]; exact ih
theorem turn_turn : ∀ (l : List Hk) (e m : Int), okL e m l = true → (l.map hturn).map hturn = l
  | [], _, _, _ => rfl
  | h :: t, e, m, ho => by
    obtain ⟨⟨h1, _, _⟩, h4⟩ := okL_cons.1 ho
    obtain ⟨_, _, _, _, _, _, ht, _⟩ := hparts h1
    rw [List.map_cons, List.map_cons, turn_turn t _ _ h4, ht]
/-- with lines behind -/
theorem does_behind : ∀ (l : List Hk) (z : Nat) (r x m : Ls), Does z r l x → Does z (r ++ m) l (x ++ m)
  | [], _, r, x, m, h => by rw [show x = r from h]; exact Eq.refl (r ++ m)
  | h :: t, z, r, x, m, hd => by
    obtain ⟨u, r', x', d1, d2, d3, d4⟩ := hd
    exact ⟨u, r' ++ m, x' ++ m, d1, by rw [d2]; simp, by rw [d3]; simp, does_behind t _ _ _ _ d4⟩
/-- further on -/
def shH (n : Nat) (h : Hk) : Hk := ⟨h.a + n, h.an, h.b + n, h.bn, h.lines⟩
theorem does_shift (n : Nat) : ∀ (l : List Hk) (e m : Int) (z : Nat) (r x : Ls), okL e m l = true → Does z r l x → Does (z + n) r (l.map (shH n)) x
  | [], _, _, _, _, _, _, h => h
  | h :: t, e, m, z, r, x, ho, hd => by
    obtain ⟨⟨h1, h2, h3⟩, h4⟩ := okL_cons.1 ho
    obtain ⟨_, _, k3, _⟩ := right_facts h1
    obtain ⟨u, r', x', d1, d2, d3, d4⟩ := hd
    have e1 : (h.a + n).toNat = h.a.toNat + n := by omega
    refine ⟨u, r', x', ?_, d2, d3, ?_⟩
    · show u.length = (h.a + n).toNat - (z + n); omega
    · have := does_shift n t _ _ _ _ _ h4 d4
      show Does ((h.a + n).toNat + (oldL h.lines).length) r' (t.map (shH n)) x'
      rw [e1, show h.a.toNat + n + (oldL h.lines).length = h.a.toNat + (oldL h.lines).length + n by omega]
      exact this
theorem does_ahead (p : Ls) : ∀ (l : List Hk) (e m : Int) (r x : Ls), okL e m l = true → Does 0 r l x → Does 0 (p ++ r) (l.map (shH p.length)) (p ++ x)
  | [], _, _, r, x, _, h => by rw [show x = r from h]; exact Eq.refl (p ++ r)
  | h :: t, e, m, r, x, ho, hd => by
    obtain ⟨⟨h1, h2, h3⟩, h4⟩ := okL_cons.1 ho
    obtain ⟨_, _, k3, _⟩ := right_facts h1
    obtain ⟨u, r', x', d1, d2, d3, d4⟩ := hd
    have e1 : (h.a + p.length).toNat = h.a.toNat + p.length := by omega
    refine ⟨p ++ u, r', x', ?_, ?_, ?_, ?_⟩
    · show (p ++ u).length = (h.a + p.length).toNat - 0
      rw [List.length_append]; omega
    · rw [d2, List.append_assoc]; rfl
    · rw [d3, List.append_assoc]; rfl
    · have := does_shift p.length t _ _ _ _ _ h4 d4
      show Does ((h.a + p.length).toNat + (oldL h.lines).length) r' (t.map (shH p.length)) x'
      rw [e1, show h.a.toNat + p.length + (oldL h.lines).length = h.a.toNat + (oldL h.lines).length + p.length by omega]
      exact this
theorem okL_shift (n : Nat) : ∀ (l : List Hk) (e m : Int), okL e m l = true → okL (e + n) m (l.map (shH n)) = true
  | [], _, _, _ => rfl
  | h :: t, e, m, ho => by
    obtain ⟨⟨h1, h2, h3⟩, h4⟩ := okL_cons.1 ho
    have ih := okL_shift n t _ _ h4
    obtain ⟨k1, k2, k3, k4, k5⟩ := (hright_iff h).1 h1
    rw [List.map_cons, okL_cons]
    refine ⟨⟨?_, ?_, ?_⟩, ?_⟩
    · rw [hright_iff]
      exact ⟨k1, by show 0 ≤ h.a + n; omega, by show 0 ≤ h.b + n; omega, k4, k5⟩
    · show h.b + n - (h.a + n) = m; omega
    · show e + n ≤ h.a + n; omega
    · show okL (h.a + n + h.an) (m + (h.bn - h.an)) (t.map (shH n)) = true
      rw [show h.a + n + h.an = h.a + h.an + n by omega]; exact ih
theorem okL_low : ∀ (l : List Hk) (e e' m : Int), okL e m l = true → e' ≤ e → okL e' m l = true
  | [], _, _, _, _, _ => rfl
  | h :: t, e, e', m, ho, he => by
    obtain ⟨⟨h1, h2, h3⟩, h4⟩ := okL_cons.1 ho
    rw [okL_cons]
    exact ⟨⟨h1, h2, by omega⟩, h4⟩
theorem okL_past : ∀ (l : List Hk) (e m : Int), okL e m l = true → ∀ h ∈ l, e ≤ h.a
  | h :: t, e, m, ho, g, hg => by
    obtain ⟨⟨h1, h2, h3⟩, h4⟩ := okL_cons.1 ho
    obtain ⟨k1, _⟩ := right_facts h1
    rcases List.mem_cons.1 hg with rfl | hg
    · exact h3
    · have := okL_past t _ _ h4 g hg
      omega
/-- one line is another one -/
theorem does_other (s : List UInt8) : ∀ (l : List Hk) (e m : Int) (z : Nat) (r x : Ls) (j : Nat), okL e m l = true → (z : Int) = e → Does z r l x → j < r.length → r[j]? ≠ some s →
    ((∃ h ∈ l, h.a ≤ (z : Int) + j ∧ (z : Int) + j < h.a + h.an) → ∀ x', ¬ Does z (r.set j s) l x') ∧ ((∀ h ∈ l, ¬ (h.a ≤ (z : Int) + j ∧ (z : Int) + j < h.a + h.an)) → ∃ x', Does z (r.set j s) l x' ∧ x'.length = x.length ∧ s ∈ x')
  | [], e, m, z, r, x, j, _, _, hd, hj, _ => by
    refine ⟨(fun ⟨h, hh, _⟩ => by cases hh), fun _ => ⟨r.set j s, rfl, ?_, ?_⟩⟩
    · rw [show x = r from hd, List.length_set]
    · exact List.mem_set hj s
  | h :: t, e, m, z, r, x, j, ho, hz, hd, hj, hne => by
    obtain ⟨⟨h1, h2, h3⟩, h4⟩ := okL_cons.1 ho
    obtain ⟨k1, k2, k3, _⟩ := right_facts h1
    obtain ⟨u, r', x', d1, d2, d3, d4⟩ := hd
    have hul : (u.length : Int) = h.a - e := by omega
    have hpast := okL_past t _ _ h4
    subst d2
    rw [List.length_append, List.length_append] at hj
    by_cases c1 : j < u.length
    · have hset : (u ++ (oldL h.lines ++ r')).set j s = u.set j s ++ (oldL h.lines ++ r') := List.set_append_left _ _ c1
      rw [hset]
      refine ⟨fun ⟨g, hg, g1, g2⟩ => ?_, fun _ => ⟨u.set j s ++ (newL h.lines ++ x'), ⟨u.set j s, r', x', by rw [List.length_set]; exact d1, rfl, rfl, d4⟩, ?_, ?_⟩⟩
      · rcases List.mem_cons.1 hg with rfl | hg
        · omega
        · have := hpast g hg; omega
      · rw [d3]; simp
      · exact List.mem_append_left _ (List.mem_set c1 s)
    · have hset : (u ++ (oldL h.lines ++ r')).set j s = u ++ (oldL h.lines ++ r').set (j - u.length) s := List.set_append_right _ _ (by omega)
      rw [List.getElem?_append_right (by omega)] at hne
      rw [hset]
      by_cases c2 : j - u.length < (oldL h.lines).length
      · have hset2 : (oldL h.lines ++ r').set (j - u.length) s = (oldL h.lines).set (j - u.length) s ++ r' := List.set_append_left _ _ c2
        rw [List.getElem?_append_left c2] at hne
        rw [hset2]
        refine ⟨fun _ y hy => ?_, fun hn => absurd ⟨by omega, by omega⟩ (hn h List.mem_cons_self)⟩
        obtain ⟨u2, r2, x2, e1, e2, _, _⟩ := hy
        have e3 := (List.append_inj e2 (by omega)).2
        have e4 := (List.append_inj e3 (by rw [List.length_set])).1
        apply hne
        rw [← e4, List.getElem?_set_self c2]
      · have hset2 : (oldL h.lines ++ r').set (j - u.length) s = oldL h.lines ++ r'.set (j - u.length - (oldL h.lines).length) s := List.set_append_right _ _ (by omega)
        rw [List.getElem?_append_right (by omega)] at hne
        rw [hset2]
        obtain ⟨i1, i2⟩ := does_other s t _ _ (h.a.toNat + (oldL h.lines).length) r' x' (j - u.length - (oldL h.lines).length) h4 (by omega) d4 (by omega) hne
        have ez : (z : Int) + j = ((h.a.toNat + (oldL h.lines).length : Nat) : Int) + ((j - u.length - (oldL h.lines).length : Nat) : Int) := by omega
        rw [← ez] at i1 i2
        refine ⟨fun ⟨g, hg, g1, g2⟩ y hy => ?_, fun hn => ?_⟩
        · obtain ⟨u2, r2, x2, e1, e2, _, e5⟩ := hy
          have e3 := (List.append_inj e2 (by omega)).2
          have e4 := (List.append_inj e3 rfl).2
          rw [← e4] at e5
          rcases List.mem_cons.1 hg with rfl | hg
          · omega
          · exact i1 ⟨g, hg, g1, g2⟩ _ e5
        · obtain ⟨y, y1, y2, y3⟩ := i2 fun g hg => hn g (List.mem_cons_of_mem _ hg)
          refine ⟨u ++ (newL h.lines ++ y), ⟨u, _, y, d1, rfl, rfl, y1⟩, by rw [d3]; simp [y2], by simp [y3]⟩
end Go.Proofs.Ytfmmececocilhaa.Ap
namespace Go.Proofs.Ytfmmececocilhaa.Ap
open Df Hu

theorem okL_mk (a : Ls) (r : Nat) : ∀ (k : Nat) (l : List Ed) (more e0 n : Int) (b : Bool), l.length ≤ k → (∀ h ∈ mkHs a r more l, hright h = true) → rise n b e0 (mkHs a r more l) → okL e0 more (mkHs a r more l) = true
  | _, [], more, _, _, _, _, _, _ => by rw [mkHs_nil]; rfl
  | 0, e :: l, _, _, _, _, h, _, _ => by simp at h
  | k + 1, e :: l, more, e0, n, b, hk, hr, hrise => by
    have hsl := spl_len r l e
    rw [mkHs_cons] at hr hrise ⊢
    simp only [List.length_cons] at hk
    obtain ⟨h1, _, h3⟩ := hrise
    rw [okL_cons]
    refine ⟨⟨hr _ List.mem_cons_self, ?_, h1⟩, okL_mk a r k _ _ _ n true (by omega) (fun h hh => hr h (List.mem_cons_of_mem _ hh)) h3⟩
    simp only [oneH]; omega
theorem take_len (X : Ls) (r : Nat) : X.take (X.take r).length = X.take r := by
  rw [List.take_eq_take_iff, List.length_take]; omega
theorem play_skip (a : Ls) (z n : Nat) : ∀ l : List Ed, (∀ e t, l = e :: t → ((z + n : Nat) : Int) ≤ e.pos) → play a z l = (a.drop z).take n ++ play a (z + n) l
  | [], _ => by
    rw [play, play]
    conv => lhs; rw [← List.take_append_drop n (a.drop z)]
    rw [List.drop_drop]
  | e :: l, h => by
    have h1 := h e l rfl
    rw [play, play]
    have e1 : (a.drop z).take (e.pos.toNat - z) = (a.drop z).take n ++ (a.drop (z + n)).take (e.pos.toNat - (z + n)) := by
      rw [show e.pos.toNat - z = n + (e.pos.toNat - (z + n)) by omega, List.take_add, List.drop_drop]
    rw [e1]
    simp only [List.append_assoc]
theorem pts_oldL (a : Ls) (r : Nat) : ∀ (g : List Ed) (z : Nat) (last : Int), right a.length last g = true → -1 ≤ last → (z : Int) ≤ last + 1 ∨ (∀ e t, g = e :: t → (z : Int) ≤ e.pos) →
    oldL (lay (pts a r z g)) = (a.drop z).take (many 45 (lay (pts a r z g)))
  | [], z, last, _, _, _ => by
    rw [pts]
    split
    · rfl
    · rw [lay, lay, List.append_nil, oldL_layP, many_old]
      simp only [List.append_nil, List.length_nil, Nat.add_zero]
      rw [take_len]
  | e :: g, z, last, hr, hl, hzl => by
    obtain ⟨p, d, ep, ed, hpd, hlp, hne, hr'⟩ := right_head hr hl
    have ih := pts_oldL a r g (p + d) _ hr' (by omega) (.inl (by omega))
    have hzp : z ≤ p := by
      rcases hzl with h | h
      · omega
      · have := h e g rfl; omega
    rw [pts, ep, ed]
    simp only [Int.toNat_natCast]
    rw [lay, oldL_append, many_append, oldL_layP, many_old, ih]
    have hls : ((a.drop z).take (p - z)).length = p - z := by rw [List.length_take, List.length_drop]; omega
    have hld : ((a.drop p).take d).length = d := by rw [List.length_take, List.length_drop]; omega
    simp only [hls, hld]
    rw [List.take_add, List.take_add, List.drop_drop, List.drop_drop, show z + (p - z) = p by omega, show z + (p - z + d) = p + d by omega]
theorem pts_play (a : Ls) (r : Nat) (t : List Ed) : ∀ (g : List Ed) (z : Nat) (last : Int), right a.length last g = true → -1 ≤ last → (z : Int) ≤ last + 1 ∨ (∀ e t, g = e :: t → (z : Int) ≤ e.pos) →
    (∀ e t', t = e :: t' → ((z + many 45 (lay (pts a r z g)) : Nat) : Int) ≤ e.pos) → play a z (g ++ t) = newL (lay (pts a r z g)) ++ play a (z + many 45 (lay (pts a r z g))) t
  | [], z, last, _, _, _, ht => by
    rw [pts] at ht ⊢
    split
    · rfl
    · rename_i hT
      rw [if_neg hT] at ht
      rw [lay, lay, List.append_nil, many_old] at ht
      rw [lay, lay, List.append_nil, newL_layP, many_old]
      simp only [List.append_nil, List.length_nil, Nat.add_zero, List.nil_append] at ht ⊢
      rw [play_skip a z _ t ht, take_len]
  | e :: g, z, last, hr, hl, hzl, ht => by
    obtain ⟨p, d, ep, ed, hpd, hlp, hne, hr'⟩ := right_head hr hl
    have hzp : z ≤ p := by
      rcases hzl with h | h
      · omega
      · have := h e g rfl; omega
    have hls : ((a.drop z).take (p - z)).length = p - z := by rw [List.length_take, List.length_drop]; omega
    have hld : ((a.drop p).take d).length = d := by rw [List.length_take, List.length_drop]; omega
    have hN : z + many 45 (lay (pts a r z (e :: g))) = p + d + many 45 (lay (pts a r (p + d) g)) := by
      rw [pts, ep, ed]
      simp only [Int.toNat_natCast]
      rw [lay, many_append, many_old]
      simp only [hls, hld]
      omega
    rw [hN] at ht ⊢
    have ih := pts_play a r t g (p + d) _ hr' (by omega) (.inl (by omega)) ht
    rw [List.cons_append, play, pts, ep, ed]
    simp only [Int.toNat_natCast]
    rw [ih, lay, newL_append, newL_layP]
    simp only [List.append_assoc]
theorem does_mk (a : Ls) (r : Nat) : ∀ (k : Nat) (l : List Ed) (more last : Int) (e0 : Nat), l.length ≤ k → right a.length last l = true → -1 ≤ last → (∀ e t, l = e :: t → e0 ≤ from_ r e) → Does e0 (a.drop e0) (mkHs a r more l) (play a e0 l)
  | _, [], more, _, e0, _, _, _, _ => by rw [mkHs_nil]; exact Eq.refl (a.drop e0)
  | 0, e :: l, _, _, _, h, _, _, _ => by simp at h
  | k + 1, e :: l, more, last, e0, hk, hr, hl, hgap => by
    have hsp := spl_eq r l e
    have hsl := spl_len r l e
    have hsg := spl_gap r l e
    obtain ⟨g, hg⟩ : ∃ g, g = (spl r e l).1 := ⟨_, rfl⟩
    obtain ⟨t, ht⟩ : ∃ t, t = (spl r e l).2 := ⟨_, rfl⟩
    rw [mkHs_cons, ← hg, ← ht]
    rw [← hg, ← ht] at hsp hsl hsg
    have hr2 : right a.length last ((e :: g) ++ t) = true := by rw [List.cons_append, hsp]; exact hr
    obtain ⟨r1, r2, r3, r4⟩ := right_app a.length (e :: g) t last hr2 hl
    have hge := hgap e l rfl
    obtain ⟨p, d, ep, ed, hpd, hlp, hne, hr'⟩ := right_head r1 hl
    obtain ⟨z, hz⟩ : ∃ z, z = from_ r e := ⟨_, rfl⟩
    have hzp := from_le r e p ep
    rw [← hz] at hge hzp ⊢
    have hzc : ((z : Nat) : Int) ≤ last + 1 ∨ (∀ e' t, e :: g = e' :: t → ((z : Nat) : Int) ≤ e'.pos) := by
      refine .inr fun e' t h => ?_
      injection h with h1 _
      subst h1
      rw [ep]; omega
    have f5 := pts_old a r (e :: g) z last r1 hl hzc (by omega)
    rw [lastF] at r2 r3 r4 f5
    have hO := pts_oldL a r (e :: g) z last r1 hl hzc
    obtain ⟨N, hN⟩ : ∃ N, N = many 45 (lay (pts a r z (e :: g))) := ⟨_, rfl⟩
    have hnext : ∀ f t', t = f :: t' → ((z + N : Nat) : Int) ≤ (from_ r f : Nat) ∧ ((z + N : Nat) : Int) ≤ f.pos := fun f t' h => by
      have h1 := hsg f t' h
      rw [← hN] at f5
      unfold from_
      omega
    have hP := pts_play a r t (e :: g) z last r1 hl hzc (fun f t' h => by rw [← hN]; exact (hnext f t' h).2)
    rw [← hN] at hO hP f5
    have hlen : ((a.drop z).take N).length = N := by rw [List.length_take, List.length_drop]; omega
    have hlO : (oldL (lay (pts a r z (e :: g)))).length = N := by rw [hO, hlen]
    have ih := does_mk a r k t (more + ((oneH a r more (e :: g) z).bn - (oneH a r more (e :: g) z).an)) _ (z + N) (by simp only [List.length_cons] at hk; omega) r2 (by omega) (fun f t' h => by have := (hnext f t' h).1; omega)
    refine ⟨(a.drop e0).take (z - e0), a.drop (z + N), play a (z + N) t, ?_, ?_, ?_, ?_⟩
    · rw [List.length_take, List.length_drop]
      simp only [oneH, Int.toNat_natCast]
      omega
    · simp only [oneH]
      have h1 := drop_split a e0 z hge
      have h2 := drop_split a z (z + N) (by omega)
      rw [Nat.add_sub_cancel_left] at h2
      rw [hO, ← h2]
      exact h1
    · simp only [oneH]
      rw [← hP, ← hsp, ← List.cons_append]
      have := play_skip a e0 (z - e0) ((e :: g) ++ t) (fun e' t' h => by
        rw [List.cons_append] at h
        injection h with h1 _
        subst h1
        rw [ep]; omega)
      rw [this, show e0 + (z - e0) = z by omega]
    · simp only [oneH, Int.toNat_natCast]
      rw [hlO]
      exact ih
/-- the hunks of right edits are right one behind the other, and done to the lines are these played -/
theorem mk_appl (a : Ls) (r : Nat) (l : List Ed) (hr : right a.length (-1) l = true) : okL 0 0 (mkHs a r 0 l) = true ∧ Does 0 a (mkHs a r 0 l) (play a 0 l) := by
  obtain ⟨h1, _, _, h4⟩ := mk_start a r l hr
  refine ⟨okL_mk a r _ l 0 0 _ false (Nat.le_refl _) h1 h4, ?_⟩
  have := does_mk a r _ l 0 (-1) 0 (Nat.le_refl _) hr (by omega) (fun e t _ => Nat.zero_le _)
  rwa [List.drop_zero] at this
/-- what is between, done, is the other one; the other way round it is the first one again -/
theorem between_appl (a b : Ls) (r : Nat) : appl a (mkHs a r 0 (D a b)) = (b, 0) ∧ appl b ((mkHs a r 0 (D a b)).map hturn) = (a, 0) ∧ okL 0 0 (mkHs a r 0 (D a b)) = true ∧ okL 0 0 ((mkHs a r 0 (D a b)).map hturn) = true ∧ ((mkHs a r 0 (D a b)).map hturn).map hturn = mkHs a r 0 (D a b) := by
  obtain ⟨h1, h2⟩ := mk_appl a r (D a b) (D_right a b)
  rw [D_play] at h2
  have h3 := okL_turn _ _ _ h1
  have h4 := does_turn _ 0 0 0 0 _ _ h1 rfl rfl h2
  exact ⟨appl_yes h1 h2, appl_yes h3 h4, h1, h3, turn_turn _ _ _ h1⟩
end Go.Proofs.Ytfmmececocilhaa.Ap
namespace Go.Proofs.Ytfmmececocilhaa.Hu
open Df

theorem size_nn : ∀ L : List Ed, 0 ≤ size L
  | [] => Int.le_refl _
  | e :: l => by rw [size]; have := size_nn l; omega
theorem delta_le (n : Nat) : ∀ (g : List Ed) (last : Int), right n last g = true → -1 ≤ last → -size g ≤ delta g ∧ delta g ≤ size g
  | [], _, _, _ => by simp [delta, size]
  | e :: g, last, hr, hl => by
    obtain ⟨p, d, ep, ed, hpd, hlp, hne, hr'⟩ := right_head hr hl
    have := delta_le n g _ hr' (by omega)
    rw [delta, size]
    omega
theorem pts_mem (a : Ls) (r M : Nat) (ha : ∀ y ∈ a, y.length ≤ M) : ∀ (g : List Ed) (z : Nat), (∀ e ∈ g, ∀ y ∈ e.ins, y.length ≤ M) → ∀ x ∈ lay (pts a r z g), x.length ≤ M + 1
  | [], z, _, x, hx => by
    rw [pts] at hx
    split at hx
    · cases hx
    · simp only [lay, layP, mk, List.map_nil, List.append_nil, List.mem_map] at hx
      obtain ⟨y, hy, rfl⟩ := hx
      have := ha y (List.mem_of_mem_drop (List.mem_of_mem_take hy))
      simp; omega
  | e :: g, z, he, x, hx => by
    rw [pts, lay, List.mem_append] at hx
    rcases hx with hx | hx
    · simp only [layP, mk, List.mem_append, List.mem_map] at hx
      rcases hx with ⟨y, hy, rfl⟩ | ⟨y, hy, rfl⟩ | ⟨y, hy, rfl⟩
      · have := ha y (List.mem_of_mem_drop (List.mem_of_mem_take hy))
        simp; omega
      · have := ha y (List.mem_of_mem_drop (List.mem_of_mem_take hy))
        simp; omega
      · have := he e (List.mem_cons_self ..) y hy
        simp; omega
    · exact pts_mem a r M ha g _ (fun e' h' => he e' (List.mem_cons_of_mem _ h')) x hx
theorem mk_bounds (a : Ls) (r M : Nat) (ha : ∀ y ∈ a, y.length ≤ M) : ∀ (k : Nat) (l : List Ed) (more last : Int), l.length ≤ k → right a.length last l = true → -1 ≤ last → (∀ e ∈ l, ∀ y ∈ e.ins, y.length ≤ M) →
    ∀ h ∈ mkHs a r more l, (h.lines.length : Int) ≤ a.length + size l ∧ (0 ≤ h.a ∧ h.a ≤ a.length) ∧ (more - size l ≤ h.b ∧ h.b ≤ a.length + more + size l) ∧ ∀ x ∈ h.lines, x.length ≤ M + 1
  | _, [], more, _, _, _, _, _, h, hh => by rw [mkHs_nil] at hh; cases hh
  | 0, e :: l, _, _, h, _, _, _, _, _ => by simp at h
  | k + 1, e :: l, more, last, hk, hr, hl, hi, h, hh => by
    have hsp := spl_eq r l e
    have hsl := spl_len r l e
    obtain ⟨g, hg⟩ : ∃ g, g = (spl r e l).1 := ⟨_, rfl⟩
    obtain ⟨t, ht⟩ : ∃ t, t = (spl r e l).2 := ⟨_, rfl⟩
    rw [mkHs_cons, ← hg, ← ht] at hh
    rw [← hg, ← ht] at hsp hsl
    have hcons : e :: l = (e :: g) ++ t := by rw [List.cons_append, hsp]
    have hr2 : right a.length last ((e :: g) ++ t) = true := by rw [← hcons]; exact hr
    obtain ⟨r1, r2, r3, r4⟩ := right_app a.length (e :: g) t last hr2 hl
    have hsz : size (e :: l) = size (e :: g) + size t := by rw [hcons, size_append]
    have h1 := size_nn (e :: g)
    have h2 := size_nn t
    have hd := delta_le a.length (e :: g) last r1 hl
    have f4 := pts_delta a r (e :: g) (from_ r e) last r1 hl
    simp only [List.length_cons] at hk
    rcases List.mem_cons.1 hh with rfl | hh
    · obtain ⟨p, d, ep, ed, hpd, hlp, hne, hr'⟩ := right_head r1 hl
      have hf := from_le r e p ep
      have h3 := pts_len a r (e :: g) (from_ r e) last r1 hl (by omega)
      have h4 := pts_old a r (e :: g) (from_ r e) last r1 hl (.inr fun e' t' h => by
        injection h with h1 _
        rw [← h1, ep]; omega) (by omega)
      simp only [oneH]
      refine ⟨by omega, by omega, by omega, fun x hx => ?_⟩
      exact pts_mem a r M ha (e :: g) _ (fun e' h' => hi e' (by rw [hcons]; exact List.mem_append_left _ h')) x hx
    · simp only [oneH] at hh
      rw [f4] at hh
      obtain ⟨i1, i2, i3, i4⟩ := mk_bounds a r M ha k t (more + delta (e :: g)) _ (by omega) r2 (by omega) (fun e' h' => hi e' (by rw [hcons]; exact List.mem_append_right _ h')) h hh
      exact ⟨by omega, i2, by omega, i4⟩
theorem emit_ins (pos del : Nat) (ins : Ls) (e : Ed) (h : e ∈ emit pos del ins) : e.ins = ins := by
  unfold emit at h
  split at h
  · cases h
  · simp at h; rw [h]
theorem go_ins (x y : Ls) (pos del : Nat) (ins : Ls) : ∀ e ∈ go x y pos del ins, ∀ z ∈ e.ins, z ∈ ins ∨ z ∈ y := by
  refine go_ind (fun x y pos del ins r => ∀ e ∈ r, ∀ z ∈ e.ins, z ∈ ins ∨ z ∈ y) ?_ ?_ ?_ ?_ ?_ ?_ _ x y pos del ins (Nat.le_refl _)
  · intro pos del ins e he z hz
    rw [emit_ins _ _ _ _ he] at hz
    exact .inl hz
  · intro b y pos del ins r h e he z hz
    rcases h e he z hz with h | h
    · rcases List.mem_append.1 h with h | h
      · exact .inl h
      · simp at h; rw [h]; exact .inr (List.mem_cons_self ..)
    · exact .inr (List.mem_cons_of_mem _ h)
  · intro a x pos del ins r h e he z hz
    exact h e he z hz
  · intro a x y pos del ins r h e he z hz
    rcases List.mem_append.1 he with he | he
    · rw [emit_ins _ _ _ _ he] at hz
      exact .inl hz
    · rcases h e he z hz with h | h
      · cases h
      · exact .inr (List.mem_cons_of_mem _ h)
  · intro a b x y pos del ins r _ _ h e he z hz
    exact h e he z hz
  · intro a b x y pos del ins r _ _ h e he z hz
    rcases h e he z hz with h | h
    · rcases List.mem_append.1 h with h | h
      · exact .inl h
      · simp at h; rw [h]; exact .inr (List.mem_cons_self ..)
    · exact .inr (List.mem_cons_of_mem _ h)
/-- what comes is of the other list -/
theorem D_ins (a b : Ls) : ∀ e ∈ D a b, ∀ z ∈ e.ins, z ∈ b := by
  intro e he z hz
  have hm : ∀ z ∈ mid b (fr a b) (bk a b), z ∈ b := fun z hz => by
    unfold mid at hz
    exact List.mem_of_mem_drop (List.mem_of_mem_take hz)
  unfold D at he
  split at he
  · rcases go_ins _ _ _ _ _ e he z hz with h | h
    · cases h
    · exact hm z h
  · rw [emit_ins _ _ _ _ he] at hz
    exact hm z hz
end Go.Proofs.Ytfmmececocilhaa.Hu
namespace Go.Proofs.Ytfmmececocilhaa.Hu
open Df

/-- a hunk's lines, without those that stay behind its last edit -/
def body (a : Ls) : Nat → List Ed → Ls
  | _, [] => []
  | z, e :: g => (mk 32 ((a.drop z).take (e.pos.toNat - z)) ++ (mk 45 ((a.drop e.pos.toNat).take e.del.toNat) ++ mk 43 e.ins)) ++ body a (e.pos.toNat + e.del.toNat) g
def endB : Nat → List Ed → Nat
  | z, [] => z
  | _, e :: g => endB (e.pos.toNat + e.del.toNat) g
theorem pts_body (a : Ls) (r : Nat) : ∀ (g : List Ed) (z : Nat), lay (pts a r z g) = body a z g ++ mk 32 ((a.drop (endB z g)).take r)
  | [], z => by
    rw [pts, body, endB]
    split
    · rename_i h; rw [h]; rfl
    · simp [lay, layP, mk_nil]
  | e :: g, z => by
    rw [pts, lay, pts_body a r g, body, endB, layP]
    simp only [List.append_assoc]
theorem body_snoc (a : Ls) : ∀ (g : List Ed) (z : Nat) (f : Ed), body a z (g ++ [f]) = body a z g ++ (mk 32 ((a.drop (endB z g)).take (f.pos.toNat - endB z g)) ++ (mk 45 ((a.drop f.pos.toNat).take f.del.toNat) ++ mk 43 f.ins))
  | [], z, f => by simp [body, endB]
  | e :: g, z, f => by
    rw [List.cons_append, body, body_snoc a g, body, endB]
    simp only [List.append_assoc]
theorem endB_snoc : ∀ (g : List Ed) (z : Nat) (f : Ed), endB z (g ++ [f]) = f.pos.toNat + f.del.toNat
  | [], _, _ => rfl
  | e :: g, z, f => by rw [List.cons_append, endB, endB_snoc g]
/-- where a group of right edits ends -/
theorem endB_last (n : Nat) : ∀ (g : List Ed) (z : Nat) (last : Int), right n last g = true → -1 ≤ last → ((endB z g : Nat) : Int) = lastF z g
  | [], _, _, _, _ => rfl
  | e :: g, z, last, hr, hl => by
    obtain ⟨p, d, ep, ed, hpd, hlp, hne, hr'⟩ := right_head hr hl
    have hf : fin e = ((p + d : Nat) : Int) := by unfold fin; rw [ep, ed]; omega
    rw [endB, lastF, hf, ep, ed]
    simp only [Int.toNat_natCast]
    exact endB_last n g _ _ hr' (by omega)
theorem lastF_snoc : ∀ (g : List Ed) (z : Int) (f : Ed), lastF z (g ++ [f]) = fin f
  | [], _, _ => rfl
  | e :: g, z, f => by rw [List.cons_append, lastF, lastF_snoc g]
/-- a group is one to its end -/
def Whole (r : Nat) (e : Ed) (g : List Ed) : Prop := spl r e g = (g, [])
theorem Whole.nil (r : Nat) (e : Ed) : Whole r e [] := rfl
theorem Whole.tail {r : Nat} {e f : Ed} {g : List Ed} (h : Whole r e (f :: g)) : f.pos - fin e ≤ 2 * r ∧ Whole r f g := by
  unfold Whole at h
  rw [spl] at h
  split at h
  · rename_i hc
    refine ⟨hc, ?_⟩
    unfold Whole
    injection h with h1 h2
    injection h1 with _ h1
    exact Prod.ext h1 h2
  · injection h with h1 _
    cases h1
/-- .. and is no longer, where what follows is far -/
theorem Whole.far {r : Nat} : ∀ {g : List Ed} {e : Ed} (l : List Ed), Whole r e g → (∀ f t, l = f :: t → 2 * r < f.pos - lastF (fin e) g) → spl r e (g ++ l) = (g, l)
  | [], e, [], _, _ => rfl
  | [], e, f :: t, _, hf => by
    have := hf f t rfl
    rw [lastF] at this
    rw [List.nil_append, spl, if_neg (by omega)]
  | f :: g, e, l, h, hf => by
    obtain ⟨h1, h2⟩ := h.tail
    have ih := Whole.far l h2 (fun f' t' he => by have := hf f' t' he; rwa [lastF] at this)
    rw [List.cons_append, spl, if_pos h1, ih]
/-- one more that is near -/
theorem Whole.snoc {r : Nat} : ∀ {g : List Ed} {e f : Ed}, Whole r e g → f.pos - lastF (fin e) g ≤ 2 * r → Whole r e (g ++ [f])
  | [], e, f, _, h => by
    rw [lastF] at h
    unfold Whole
    rw [List.nil_append, spl, if_pos h]; rfl
  | f' :: g, e, f, h, hf => by
    obtain ⟨h1, h2⟩ := h.tail
    rw [lastF] at hf
    have ih := Whole.snoc h2 hf
    unfold Whole at ih ⊢
    rw [List.cons_append, spl, if_pos h1, ih]
/-- a group that ends is a hunk -/
theorem mk_close (a : Ls) (r : Nat) (more last : Int) (e : Ed) (g l : List Ed) (hw : Whole r e g) (hf : ∀ f t, l = f :: t → 2 * r < f.pos - lastF (fin e) g) (hr : right a.length last (e :: g) = true) (hl : -1 ≤ last) :
    mkHs a r more (e :: (g ++ l)) = oneH a r more (e :: g) (from_ r e) :: mkHs a r (more + delta (e :: g)) l := by
  rw [mkHs_cons, hw.far l hf]
  have := pts_delta a r (e :: g) (from_ r e) last hr hl
  simp only [oneH]
  rw [this]
end Go.Proofs.Ytfmmececocilhaa.Hu
