/-
  Longest common subsequences, edits, and the way between two lists: on lists alone.
-/

namespace Go.Proofs.Ytofccahgmkifjaa.Df

/-- how long the longest common subsequence is -/
def lcs {α : Type} [DecidableEq α] : List α → List α → Nat
  | [], _ => 0
  | _ :: _, [] => 0
  | a :: x, b :: y => if a = b then lcs x y + 1 else max (lcs x (b :: y)) (lcs (a :: x) y)
termination_by x y => x.length + y.length

/-- two subsequences of one list have much in common -/
theorem sub_meet {α : Type} : ∀ (b s t : List α), s.Sublist b → t.Sublist b → ∃ u : List α, u.Sublist s ∧ u.Sublist t ∧ s.length + t.length ≤ u.length + b.length
  | [], s, t, h1, h2 => by
    rw [List.sublist_nil.1 h1, List.sublist_nil.1 h2]
    exact ⟨[], List.nil_sublist _, List.nil_sublist _, by simp⟩
  | c :: b, s, t, h1, h2 => by
    rcases List.sublist_cons_iff.1 h1 with k1 | ⟨s', rfl, k1⟩
    · rcases List.sublist_cons_iff.1 h2 with k2 | ⟨t', rfl, k2⟩
      · obtain ⟨u, a1, a2, a3⟩ := sub_meet b s t k1 k2
        exact ⟨u, a1, a2, by simp; omega⟩
      · obtain ⟨u, a1, a2, a3⟩ := sub_meet b s t' k1 k2
        exact ⟨u, a1, a2.cons c, by simp; omega⟩
    · rcases List.sublist_cons_iff.1 h2 with k2 | ⟨t', rfl, k2⟩
      · obtain ⟨u, a1, a2, a3⟩ := sub_meet b s' t k1 k2
        exact ⟨u, a1.cons c, a2, by simp; omega⟩
      · obtain ⟨u, a1, a2, a3⟩ := sub_meet b s' t' k1 k2
        exact ⟨c :: u, a1.cons_cons c, a2.cons_cons c, by simp; omega⟩
section
variable {α : Type} [DecidableEq α]
theorem lcs_nil_left (y : List α) : lcs [] y = 0 := by rw [lcs]
theorem lcs_nil_right (x : List α) : lcs x [] = 0 := by
  cases x with
  | nil => rw [lcs]
  | cons a x => rw [lcs]
theorem lcs_cons (a b : α) (x y : List α) : lcs (a :: x) (b :: y) = if a = b then lcs x y + 1 else max (lcs x (b :: y)) (lcs (a :: x) y) := by rw [lcs]
/-- it is reached -/
theorem lcs_sub : ∀ (n : Nat) (x y : List α), x.length + y.length ≤ n → ∃ s : List α, s.Sublist x ∧ s.Sublist y ∧ s.length = lcs x y
  | _, [], y, _ => ⟨[], List.nil_sublist _, List.nil_sublist _, by rw [lcs_nil_left]; rfl⟩
  | _, x, [], _ => ⟨[], List.nil_sublist _, List.nil_sublist _, by rw [lcs_nil_right]; rfl⟩
  | 0, a :: x, b :: y, h => by simp at h
  | n + 1, a :: x, b :: y, h => by
    simp only [List.length_cons] at h
    rw [lcs_cons]
    by_cases e : a = b
    · obtain ⟨s, h1, h2, h3⟩ := lcs_sub n x y (by omega)
      rw [if_pos e]
      subst e
      exact ⟨a :: s, h1.cons_cons a, h2.cons_cons a, by simp [h3]⟩
    · rw [if_neg e]
      obtain ⟨s, h1, h2, h3⟩ := lcs_sub n x (b :: y) (by simp; omega)
      obtain ⟨t, k1, k2, k3⟩ := lcs_sub n (a :: x) y (by simp; omega)
      rcases Nat.le_total (lcs (a :: x) y) (lcs x (b :: y)) with hl | hl
      · exact ⟨s, h1.cons a, h2, by omega⟩
      · exact ⟨t, k1, k2.cons b, by omega⟩
/-- and never passed -/
theorem lcs_ge : ∀ (n : Nat) (x y s : List α), x.length + y.length ≤ n → s.Sublist x → s.Sublist y → s.length ≤ lcs x y
  | _, [], y, s, _, h1, _ => by rw [List.sublist_nil.1 h1]; exact Nat.zero_le _
  | _, x, [], s, _, _, h2 => by rw [List.sublist_nil.1 h2]; exact Nat.zero_le _
  | 0, a :: x, b :: y, _, h, _, _ => by simp at h
  | n + 1, a :: x, b :: y, s, h, h1, h2 => by
    simp only [List.length_cons] at h
    rw [lcs_cons]
    by_cases e : a = b
    · rw [if_pos e]
      subst e
      cases s with
      | nil => exact Nat.zero_le _
      | cons c s =>
        have k1 : s.Sublist x := by
          rcases List.sublist_cons_iff.1 h1 with h | ⟨r, hr, hs⟩
          · exact (List.sublist_cons_self c s).trans h
          · cases hr; exact hs
        have k2 : s.Sublist y := by
          rcases List.sublist_cons_iff.1 h2 with h | ⟨r, hr, hs⟩
          · exact (List.sublist_cons_self c s).trans h
          · cases hr; exact hs
        have := lcs_ge n x y s (by omega) k1 k2
        simp; omega
    · rw [if_neg e]
      rcases List.sublist_cons_iff.1 h1 with k1 | ⟨r, rfl, k1⟩
      · have := lcs_ge n x (b :: y) s (by simp; omega) k1 h2
        omega
      · rcases List.sublist_cons_iff.1 h2 with k2 | ⟨r', hr, k2⟩
        · have := lcs_ge n (a :: x) y (a :: r) (by simp; omega) h1 k2
          omega
        · injection hr with h3 _
          exact absurd h3 e
theorem lcs_le_iff {x y : List α} {n : Nat} (h : ∀ s : List α, s.Sublist x → s.Sublist y → s.length ≤ n) : lcs x y ≤ n := by
  obtain ⟨s, h1, h2, h3⟩ := lcs_sub _ x y (Nat.le_refl _)
  rw [← h3]; exact h s h1 h2
theorem le_lcs {x y s : List α} (h1 : s.Sublist x) (h2 : s.Sublist y) : s.length ≤ lcs x y := lcs_ge _ x y s (Nat.le_refl _) h1 h2
theorem lcs_comm (x y : List α) : lcs x y = lcs y x :=
  Nat.le_antisymm (lcs_le_iff fun _ h1 h2 => le_lcs h2 h1) (lcs_le_iff fun _ h1 h2 => le_lcs h2 h1)
theorem lcs_rev_le (x y : List α) : lcs x y ≤ lcs x.reverse y.reverse :=
  lcs_le_iff fun s h1 h2 => by
    have := le_lcs (List.reverse_sublist.2 h1) (List.reverse_sublist.2 h2)
    rwa [List.length_reverse] at this
theorem lcs_rev (x y : List α) : lcs x.reverse y.reverse = lcs x y :=
  Nat.le_antisymm (by have := lcs_rev_le x.reverse y.reverse; rwa [List.reverse_reverse, List.reverse_reverse] at this) (lcs_rev_le x y)
theorem lcs_snoc (a b : α) (x y : List α) : lcs (x ++ [a]) (y ++ [b]) = if a = b then lcs x y + 1 else max (lcs x (y ++ [b])) (lcs (x ++ [a]) y) := by
  rw [← lcs_rev, List.reverse_append, List.reverse_append]
  simp only [List.reverse_cons, List.reverse_nil, List.nil_append, List.singleton_append]
  rw [lcs_cons, lcs_rev]
  rw [← lcs_rev x (y ++ [b]), ← lcs_rev (x ++ [a]) y, List.reverse_append, List.reverse_append]
  simp only [List.reverse_cons, List.reverse_nil, List.nil_append, List.singleton_append]
theorem lcs_front : ∀ (p x y : List α), lcs (p ++ x) (p ++ y) = p.length + lcs x y
  | [], x, y => by simp
  | a :: p, x, y => by
    rw [List.cons_append, List.cons_append, lcs_cons, if_pos rfl, lcs_front p x y]
    simp; omega
theorem lcs_back (s x y : List α) : lcs (x ++ s) (y ++ s) = lcs x y + s.length := by
  rw [← lcs_rev, List.reverse_append, List.reverse_append, lcs_front, lcs_rev, List.length_reverse]
  omega
theorem lcs_self (x : List α) : lcs x x = x.length := by
  have := lcs_front x [] []
  rw [List.append_nil, lcs_nil_left] at this
  omega
theorem lcs_le_left (x y : List α) : lcs x y ≤ x.length := lcs_le_iff fun _ h _ => h.length_le
theorem lcs_le_right (x y : List α) : lcs x y ≤ y.length := lcs_le_iff fun _ _ h => h.length_le
theorem lcs_chain (a b c : List α) : lcs a b + lcs b c ≤ lcs a c + b.length := by
  obtain ⟨s, h1, h2, h3⟩ := lcs_sub _ a b (Nat.le_refl _)
  obtain ⟨t, k1, k2, k3⟩ := lcs_sub _ b c (Nat.le_refl _)
  obtain ⟨u, a1, a2, a3⟩ := sub_meet b s t h2 k1
  have := le_lcs (a1.trans h1) (a2.trans k2)
  omega
end

/-- an edit -/
structure Ed where
  pos : Int
  del : Int
  ins : List (List UInt8)
abbrev Ls := List (List UInt8)
def emit (pos del : Nat) (ins : Ls) : List Ed := if del = 0 ∧ ins = [] then [] else [⟨pos, del, ins⟩]
/-- the way, line by line: behind 'pos' lines of a 'del' have gone, and 'ins' come, since a line stayed last -/
def go : Ls → Ls → Nat → Nat → Ls → List Ed
  | [], [], pos, del, ins => emit pos del ins
  | [], b :: y, pos, del, ins => go [] y pos del (ins ++ [b])
  | _ :: x, [], pos, del, ins => go x [] pos (del + 1) ins
  | a :: x, b :: y, pos, del, ins =>
    if a = b then emit pos del ins ++ go x y (pos + del + 1) 0 []
    else if lcs (a :: x) y ≤ lcs x (b :: y) then go x (b :: y) pos (del + 1) ins else go (a :: x) y pos del (ins ++ [b])
termination_by x y => x.length + y.length
theorem go_nil (pos del : Nat) (ins : Ls) : go [] [] pos del ins = emit pos del ins := by rw [go]
theorem go_come (b : List UInt8) (y : Ls) (pos del : Nat) (ins : Ls) : go [] (b :: y) pos del ins = go [] y pos del (ins ++ [b]) := by rw [go]
theorem go_gone (a : List UInt8) (x : Ls) (pos del : Nat) (ins : Ls) : go (a :: x) [] pos del ins = go x [] pos (del + 1) ins := by rw [go]
theorem go_both (a b : List UInt8) (x y : Ls) (pos del : Nat) (ins : Ls) : go (a :: x) (b :: y) pos del ins =
    if a = b then emit pos del ins ++ go x y (pos + del + 1) 0 []
    else if lcs (a :: x) y ≤ lcs x (b :: y) then go x (b :: y) pos (del + 1) ins else go (a :: x) y pos del (ins ++ [b]) := by rw [go]
theorem go_all_come : ∀ (y : Ls) (pos del : Nat) (ins : Ls), go [] y pos del ins = emit pos del (ins ++ y)
  | [], pos, del, ins => by rw [go_nil, List.append_nil]
  | b :: y, pos, del, ins => by rw [go_come, go_all_come y]; simp
theorem go_all_gone : ∀ (x : Ls) (pos del : Nat) (ins : Ls), go x [] pos del ins = emit pos (del + x.length) ins
  | [], pos, del, ins => by rw [go_nil]; simp
  | a :: x, pos, del, ins => by rw [go_gone, go_all_gone x]; simp; congr 1; omega
/-- one rule for what is in the program's own order -/
theorem go_ind (P : Ls → Ls → Nat → Nat → Ls → List Ed → Prop) (h0 : ∀ pos del ins, P [] [] pos del ins (emit pos del ins))
    (h1 : ∀ b y pos del ins r, P [] y pos del (ins ++ [b]) r → P [] (b :: y) pos del ins r) (h2 : ∀ a x pos del ins r, P x [] pos (del + 1) ins r → P (a :: x) [] pos del ins r)
    (h3 : ∀ a x y pos del ins r, P x y (pos + del + 1) 0 [] r → P (a :: x) (a :: y) pos del ins (emit pos del ins ++ r))
    (h4 : ∀ a b x y pos del ins r, a ≠ b → lcs (a :: x) y ≤ lcs x (b :: y) → P x (b :: y) pos (del + 1) ins r → P (a :: x) (b :: y) pos del ins r)
    (h5 : ∀ a b x y pos del ins r, a ≠ b → ¬ lcs (a :: x) y ≤ lcs x (b :: y) → P (a :: x) y pos del (ins ++ [b]) r → P (a :: x) (b :: y) pos del ins r) :
    ∀ (n : Nat) (x y : Ls) (pos del : Nat) (ins : Ls), x.length + y.length ≤ n → P x y pos del ins (go x y pos del ins)
  | _, [], [], pos, del, ins, _ => by rw [go_nil]; exact h0 _ _ _
  | 0, [], b :: y, pos, del, ins, h => by simp at h
  | n + 1, [], b :: y, pos, del, ins, h => by
    simp only [List.length_cons, List.length_nil] at h
    rw [go_come]; exact h1 _ _ _ _ _ _ (go_ind P h0 h1 h2 h3 h4 h5 n [] y _ _ _ (by simp; omega))
  | 0, a :: x, _, pos, del, ins, h => by simp at h
  | n + 1, a :: x, [], pos, del, ins, h => by
    simp only [List.length_cons, List.length_nil] at h
    rw [go_gone]; exact h2 _ _ _ _ _ _ (go_ind P h0 h1 h2 h3 h4 h5 n x [] _ _ _ (by simp; omega))
  | n + 1, a :: x, b :: y, pos, del, ins, h => by
    simp only [List.length_cons] at h
    rw [go_both]
    split
    · rename_i e
      subst e
      exact h3 _ _ _ _ _ _ _ (go_ind P h0 h1 h2 h3 h4 h5 n x y _ _ _ (by omega))
    · rename_i e
      split
      · rename_i hl
        exact h4 _ _ _ _ _ _ _ _ e hl (go_ind P h0 h1 h2 h3 h4 h5 n x (b :: y) _ _ _ (by simp; omega))
      · rename_i hl
        exact h5 _ _ _ _ _ _ _ _ e hl (go_ind P h0 h1 h2 h3 h4 h5 n (a :: x) y _ _ _ (by simp; omega))

/-- how many lines go and come -/
def size : List Ed → Int
  | [] => 0
  | e :: l => max 0 e.del + e.ins.length + size l
theorem size_append : ∀ l r : List Ed, size (l ++ r) = size l + size r
  | [], r => by simp [size]
  | e :: l, r => by rw [List.cons_append, size, size, size_append l r]; omega
theorem size_emit (pos del : Nat) (ins : Ls) : size (emit pos del ins) = del + ins.length := by
  unfold emit
  split
  · rename_i h; rw [h.1, h.2]; rfl
  · simp [size]
theorem size_go (x y : Ls) (pos del : Nat) (ins : Ls) : size (go x y pos del ins) + 2 * (lcs x y : Int) = x.length + y.length + del + ins.length := by
  refine go_ind (fun x y _ del ins r => size r + 2 * (lcs x y : Int) = x.length + y.length + del + ins.length) ?_ ?_ ?_ ?_ ?_ ?_ _ x y pos del ins (Nat.le_refl _)
  · intro pos del ins; rw [size_emit, lcs_nil_left]; simp
  · intro b y pos del ins r h; rw [lcs_nil_left] at h ⊢; simp at h ⊢; omega
  · intro a x pos del ins r h; rw [lcs_nil_right] at h ⊢; simp at h ⊢; omega
  · intro a x y pos del ins r h; rw [size_append, size_emit, lcs_cons, if_pos rfl]; simp at h ⊢; omega
  · intro a b x y pos del ins r hab hl h; rw [lcs_cons, if_neg hab]; simp at h ⊢; omega
  · intro a b x y pos del ins r hab hl h; rw [lcs_cons, if_neg hab]; simp at h ⊢; omega

/-- are edits right, behind an edit that ends at 'last'? -/
def right (n : Int) : Int → List Ed → Bool
  | _, [] => true
  | last, e :: l => (decide (0 ≤ e.del) && decide (e.del ≠ 0 ∨ e.ins ≠ []) && decide (last < e.pos) && decide (e.pos ≤ n) && decide (e.del ≤ n - e.pos)) && right n (e.pos + e.del) l
theorem right_cons (n last : Int) (e : Ed) (l : List Ed) : right n last (e :: l) = true ↔ (0 ≤ e.del ∧ (e.del ≠ 0 ∨ e.ins ≠ []) ∧ last < e.pos ∧ e.pos ≤ n ∧ e.del ≤ n - e.pos) ∧ right n (e.pos + e.del) l = true := by
  simp only [right, Bool.and_eq_true, decide_eq_true_eq, and_assoc]
theorem right_emit (n last : Int) (pos del : Nat) (ins : Ls) (r : List Ed) (h1 : last < pos) (h2 : (pos + del : Int) ≤ n) (hr : ∀ last' : Int, last' ≤ pos + del → right n last' r = true) : right n last (emit pos del ins ++ r) = true := by
  unfold emit
  split
  · exact hr last (by omega)
  · rename_i h
    rw [List.singleton_append, right_cons]
    refine ⟨⟨by simp, ?_, h1, by simp; omega, by simp; omega⟩, hr _ (by simp)⟩
    by_cases hd : del = 0
    · exact .inr fun e => h ⟨hd, e⟩
    · exact .inl (by simp; exact hd)
theorem right_go (n : Int) (x y : Ls) (pos del : Nat) (ins : Ls) (last : Int) (h1 : last < pos) (h2 : (pos + del + x.length : Int) ≤ n) : right n last (go x y pos del ins) = true := by
  refine go_ind (fun x y pos del ins r => ∀ last : Int, last < pos → (pos + del + x.length : Int) ≤ n → right n last r = true) ?_ ?_ ?_ ?_ ?_ ?_ _ x y pos del ins (Nat.le_refl _) last h1 h2
  · intro pos del ins last h1 h2
    have := right_emit n last pos del ins [] h1 (by simp at h2; omega) (fun _ _ => rfl)
    rwa [List.append_nil] at this
  · intro b y pos del ins r h last h1 h2; exact h last h1 h2
  · intro a x pos del ins r h last h1 h2; exact h last h1 (by simp at h2 ⊢; omega)
  · intro a x y pos del ins r h last h1 h2
    exact right_emit n last pos del ins r h1 (by simp at h2; omega) (fun l' hl => h l' (by omega) (by simp at h2 ⊢; omega))
  · intro a b x y pos del ins r hab hl h last h1 h2; exact h last h1 (by simp at h2 ⊢; omega)
  · intro a b x y pos del ins r hab hl h last h1 h2; exact h last h1 h2

/-- what lines become, from line 'at' on -/
def play (a : Ls) : Nat → List Ed → Ls
  | at_, [] => a.drop at_
  | at_, e :: l => (a.drop at_).take (e.pos.toNat - at_) ++ e.ins ++ play a (e.pos.toNat + e.del.toNat) l
theorem drop_split {α : Type} (a : List α) (i j : Nat) (h : i ≤ j) : a.drop i = (a.drop i).take (j - i) ++ a.drop j := by
  conv => lhs; rw [← List.take_append_drop (j - i) (a.drop i)]
  rw [List.drop_drop]
  congr 2
  omega
theorem play_go (a s : Ls) (x y : Ls) (pos del : Nat) (ins : Ls) (at_ : Nat) (h1 : at_ ≤ pos) (h2 : a.drop (pos + del) = x ++ s) :
    play a at_ (go x y pos del ins) = (a.drop at_).take (pos - at_) ++ ins ++ y ++ s := by
  refine go_ind (fun x y pos del ins r => ∀ at_ : Nat, at_ ≤ pos → a.drop (pos + del) = x ++ s → play a at_ r = (a.drop at_).take (pos - at_) ++ ins ++ y ++ s) ?_ ?_ ?_ ?_ ?_ ?_ _ x y pos del ins (Nat.le_refl _) at_ h1 h2
  · intro pos del ins at_ h1 h2
    unfold emit
    split
    · rename_i h
      rw [h.1, Nat.add_zero, List.nil_append] at h2
      rw [h.2, play]
      simp only [List.append_nil]
      rw [← h2]
      exact drop_split a at_ pos h1
    · simp only [play, Int.toNat_natCast, List.append_nil]
      rw [h2]; simp
  · intro b y pos del ins r h at_ h1 h2
    rw [h at_ h1 h2]; simp
  · intro a' x pos del ins r h at_ h1 h2
    refine h at_ h1 ?_
    rw [show pos + (del + 1) = pos + del + 1 from by omega, ← List.drop_drop, h2]
    rfl
  · intro c x y pos del ins r h at_ h1 h2
    have h3 : a.drop (pos + del + 1) = x ++ s := by rw [← List.drop_drop, h2]; rfl
    have h4 : (a.drop (pos + del)).take 1 = [c] := by rw [h2]; simp
    unfold emit
    split
    · rename_i hd
      rw [List.nil_append, h at_ (by omega) (by simpa using h3), hd.1, hd.2]
      have h5 : pos + 0 + 1 - at_ = pos - at_ + 1 := by omega
      rw [h5, List.take_add_one, List.getElem?_drop]
      rw [hd.1, Nat.add_zero] at h2
      have h6 : a[at_ + (pos - at_)]? = some c := by
        rw [show at_ + (pos - at_) = pos + 0 from by omega, ← List.getElem?_drop, h2]
        rfl
      rw [h6]
      simp
    · simp only [List.singleton_append, play, Int.toNat_natCast]
      rw [h (pos + del) (by omega) (by simpa using h3), show pos + del + 1 - (pos + del) = 1 from by omega, h4]
      simp
  · intro c b x y pos del ins r hab hl h at_ h1 h2
    refine h at_ h1 ?_
    rw [show pos + (del + 1) = pos + del + 1 from by omega, ← List.drop_drop, h2]
    rfl
  · intro c b x y pos del ins r hab hl h at_ h1 h2
    rw [h at_ h1 h2]; simp

/-- the edits back -/
def turn (a : Ls) : Int → List Ed → List Ed
  | _, [] => []
  | more, e :: l => ⟨e.pos + more, e.ins.length, (a.drop e.pos.toNat).take e.del.toNat⟩ :: turn a (more + e.ins.length - e.del) l
/-- what is known of right edits' first one -/
theorem right_head {n : Nat} {last : Int} {e : Ed} {l : List Ed} (h : right n last (e :: l) = true) (hl : -1 ≤ last) :
    ∃ p d : Nat, e.pos = p ∧ e.del = d ∧ p + d ≤ n ∧ last < p ∧ (d ≠ 0 ∨ e.ins ≠ []) ∧ right n ((p + d : Nat) : Int) l = true := by
  obtain ⟨⟨h1, h2, h3, h4, h5⟩, h6⟩ := (right_cons _ _ _ _).1 h
  obtain ⟨p, hp⟩ := Int.eq_ofNat_of_zero_le (show 0 ≤ e.pos by omega)
  obtain ⟨d, hd⟩ := Int.eq_ofNat_of_zero_le h1
  rw [hp, hd] at h6
  refine ⟨p, d, hp, hd, by omega, by omega, ?_, by rw [Int.natCast_add]; exact h6⟩
  rcases h2 with h2 | h2
  · exact .inl (by omega)
  · exact .inr h2
theorem play_turn (a : Ls) : ∀ (l : List Ed) (at_ : Nat) (last : Int) (pre : Ls) (F : Nat) (more : Int), -1 ≤ last → at_ ≤ last + 1 → right a.length last l = true → pre.length = F → (F : Int) = at_ + more →
    play (pre ++ play a at_ l) F (turn a more l) = a.drop at_
  | [], at_, last, pre, F, more, _, _, _, hp, _ => by
    subst hp
    simp [turn, play]
  | e :: l, at_, last, pre, F, more, h1, h2, hr, hp, hF => by
    obtain ⟨p, d, ep, ed, hpd, hlp, _, hr'⟩ := right_head hr h1
    have hat : at_ ≤ p := by omega
    rw [turn, play, play]
    simp only [ep, ed, Int.toNat_natCast]
    have e1 : ((p : Int) + more).toNat = F + (p - at_) := by omega
    rw [e1]
    have hlen : ((a.drop at_).take (p - at_)).length = p - at_ := by rw [List.length_take, List.length_drop]; omega
    have ih := play_turn a l (p + d) ((p + d : Nat) : Int) (pre ++ ((a.drop at_).take (p - at_) ++ e.ins)) (F + (p - at_) + e.ins.length) (more + e.ins.length - d) (by omega) (by omega) hr'
      (by rw [List.length_append, List.length_append, hlen, hp]; omega) (by omega)
    rw [List.append_assoc] at ih
    rw [ih, show F + (p - at_) - F = p - at_ from by omega, List.drop_left' hp]
    have e2 : ((a.drop at_).take (p - at_) ++ e.ins ++ play a (p + d) l).take (p - at_) = (a.drop at_).take (p - at_) := by
      rw [List.append_assoc, List.take_left' hlen]
    rw [e2, List.append_assoc, show a.drop (p + d) = a.drop (p + d) from rfl]
    have e3 : (a.drop p).take d ++ a.drop (p + d) = a.drop p := by
      have := drop_split a p (p + d) (by omega)
      rw [show p + d - p = d from by omega] at this
      exact this.symm
    rw [e3]
    exact (drop_split a at_ p hat).symm
theorem right_turn (a : Ls) : ∀ (l : List Ed) (at_ : Nat) (last more : Int) (n : Nat), -1 ≤ last → at_ ≤ last + 1 → right a.length last l = true → (n : Int) = (play a at_ l).length + at_ + more → right n (last + more) (turn a more l) = true
  | [], _, _, _, _, _, _, _, _ => rfl
  | e :: l, at_, last, more, n, h1, h2, hr, hn => by
    obtain ⟨p, d, ep, ed, hpd, hlp, hne, hr'⟩ := right_head hr h1
    rw [play] at hn
    simp only [ep, ed, Int.toNat_natCast, List.length_append, List.length_take, List.length_drop] at hn
    have ih := right_turn a l (p + d) ((p + d : Nat) : Int) (more + e.ins.length - d) n (by omega) (by omega) hr' (by omega)
    rw [turn, right_cons]
    simp only [ep, ed, Int.toNat_natCast]
    refine ⟨⟨by omega, ?_, by omega, by omega, by omega⟩, ?_⟩
    · rcases hne with h | h
      · right
        intro he
        have := congrArg List.length he
        rw [List.length_take, List.length_drop] at this
        simp at this
        omega
      · left
        have := List.length_pos_iff.2 h
        omega
    · have e1 : (p : Int) + more + e.ins.length = ((p + d : Nat) : Int) + (more + e.ins.length - d) := by omega
      rw [e1]; exact ih
theorem size_turn (a : Ls) : ∀ (l : List Ed) (last more : Int), -1 ≤ last → right a.length last l = true → size (turn a more l) = size l
  | [], _, _, _, _ => rfl
  | e :: l, last, more, h1, hr => by
    obtain ⟨p, d, ep, ed, hpd, hlp, hne, hr'⟩ := right_head hr h1
    rw [turn, size, size, size_turn a l ((p + d : Nat) : Int) _ (by omega) hr']
    simp only [ep, ed, Int.toNat_natCast, List.length_take, List.length_drop]
    omega
end Go.Proofs.Ytofccahgmkifjaa.Df
namespace Go.Proofs.Ytofccahgmkifjaa.Df

/-- how many in a row, from k on, p holds of, of so many at most -/
def run (p : Nat → Bool) : Nat → Nat → Nat
  | k, 0 => k
  | k, m + 1 => if p k = true then run p (k + 1) m else k
structure IsRun (p : Nat → Bool) (most n : Nat) : Prop where
  le : n ≤ most
  all : ∀ j, j < n → p j = true
  stop : n < most → p n = false
theorem IsRun.uniq {p : Nat → Bool} {most n m : Nat} (h : IsRun p most n) (k : IsRun p most m) : n = m := by
  rcases Nat.lt_trichotomy n m with hlt | he | hlt
  · have h1 := h.stop (by have := k.le; omega)
    have h2 := k.all n hlt
    rw [h1] at h2; cases h2
  · exact he
  · have h1 := k.stop (by have := h.le; omega)
    have h2 := h.all m hlt
    rw [h1] at h2; cases h2
theorem run_from (p : Nat → Bool) : ∀ (m k : Nat), (∀ j, j < k → p j = true) → IsRun p (k + m) (run p k m)
  | 0, k, h => ⟨Nat.le_refl _, h, fun h => absurd h (by simp [run])⟩
  | m + 1, k, h => by
    rw [run]
    by_cases hp : p k = true
    · rw [if_pos hp]
      have := run_from p m (k + 1) (fun j hj => by
        rcases Nat.lt_or_ge j k with hl | hl
        · exact h j hl
        · obtain rfl : j = k := by omega
          exact hp)
      rwa [show k + 1 + m = k + (m + 1) from by omega] at this
    · rw [if_neg hp]
      exact ⟨by omega, h, fun _ => by simpa using hp⟩
theorem run_is (p : Nat → Bool) (m : Nat) : IsRun p m (run p 0 m) := by
  have := run_from p m 0 (fun j h => absurd h (Nat.not_lt_zero _))
  rwa [Nat.zero_add] at this
theorem IsRun.congr {p q : Nat → Bool} {m n : Nat} (h : IsRun p m n) (he : ∀ j, j < m → p j = q j) : IsRun q m n :=
  ⟨h.le, fun j hj => by rw [← he j (by have := h.le; omega)]; exact h.all j hj, fun hn => by rw [← he n hn]; exact h.stop hn⟩

def frP (a b : Ls) (i : Nat) : Bool := decide (a.getD i [] = b.getD i [])
def bkP (a b : Ls) (i : Nat) : Bool := decide (a.getD (a.length - 1 - i) [] = b.getD (b.length - 1 - i) [])
def fr (a b : Ls) : Nat := run (frP a b) 0 (min a.length b.length)
def bk (a b : Ls) : Nat := run (bkP a b) 0 (min a.length b.length - fr a b)
/-- what is left of a list without so many in front, and behind -/
def mid (a : Ls) (f e : Nat) : Ls := (a.drop f).take (a.length - e - f)
/-- what is between two lists -/
def D (a b : Ls) : List Ed :=
  if (mid a (fr a b) (bk a b)).length * (mid b (fr a b) (bk a b)).length ≤ 65536 then go (mid a (fr a b) (bk a b)) (mid b (fr a b) (bk a b)) (fr a b) 0 []
  else emit (fr a b) (mid a (fr a b) (bk a b)).length (mid b (fr a b) (bk a b))
theorem fr_is (a b : Ls) : IsRun (frP a b) (min a.length b.length) (fr a b) := run_is _ _
theorem bk_is (a b : Ls) : IsRun (bkP a b) (min a.length b.length - fr a b) (bk a b) := run_is _ _
theorem mid_len (a : Ls) (f e : Nat) (h : f + e ≤ a.length) : (mid a f e).length = a.length - e - f := by
  unfold mid; rw [List.length_take, List.length_drop]; omega
theorem mid_parts (a : Ls) (f e : Nat) (h : f + e ≤ a.length) : a = a.take f ++ (mid a f e ++ a.drop (a.length - e)) := by
  unfold mid
  have := drop_split a f (a.length - e) (by omega)
  rw [← this, List.take_append_drop]
theorem ext_getD {x y : Ls} (hl : x.length = y.length) (h : ∀ j, j < x.length → x.getD j [] = y.getD j []) : x = y := by
  apply List.ext_getElem hl
  intro j h1 h2
  have := h j h1
  simpa [List.getD_eq_getElem?_getD, List.getElem?_eq_getElem h1, List.getElem?_eq_getElem h2] using this
/-- both lists by what they have in common in front and behind -/
theorem parts (a b : Ls) : ∃ p s x y : Ls, a = p ++ (x ++ s) ∧ b = p ++ (y ++ s) ∧ fr a b = p.length ∧ bk a b = s.length ∧ mid a (fr a b) (bk a b) = x ∧ mid b (fr a b) (bk a b) = y := by
  have hf := fr_is a b
  have he := bk_is a b
  have h1 := hf.le
  have h2 := he.le
  have hp : a.take (fr a b) = b.take (fr a b) := by
    apply ext_getD
    · rw [List.length_take, List.length_take]; omega
    · intro j hj
      rw [List.length_take] at hj
      have := hf.all j (by omega)
      simp only [frP, decide_eq_true_eq] at this
      simpa [List.getD_eq_getElem?_getD, List.getElem?_take, show j < fr a b from by omega] using this
  have hs : a.drop (a.length - bk a b) = b.drop (b.length - bk a b) := by
    apply ext_getD
    · rw [List.length_drop, List.length_drop]; omega
    · intro j hj
      rw [List.length_drop] at hj
      have := he.all (bk a b - 1 - j) (by omega)
      simp only [bkP, decide_eq_true_eq] at this
      rw [show a.length - 1 - (bk a b - 1 - j) = a.length - bk a b + j from by omega, show b.length - 1 - (bk a b - 1 - j) = b.length - bk a b + j from by omega] at this
      simpa [List.getD_eq_getElem?_getD, List.getElem?_drop] using this
  refine ⟨a.take (fr a b), a.drop (a.length - bk a b), _, _, mid_parts a _ _ (by omega), ?_, ?_, ?_, rfl, rfl⟩
  · rw [hp, hs]; exact mid_parts b _ _ (by omega)
  · rw [List.length_take]; omega
  · rw [List.length_drop]; omega
theorem mul_le {x y n m : Nat} (h1 : x ≤ n) (h2 : y ≤ m) : x * y ≤ n * m := Nat.mul_le_mul h1 h2
theorem D_size (a b : Ls) (h : a.length * b.length ≤ 65536) : size (D a b) + 2 * (lcs a b : Int) = a.length + b.length := by
  obtain ⟨p, s, x, y, ha, hb, hf, he, hx, hy⟩ := parts a b
  have hl : lcs a b = p.length + (lcs x y + s.length) := by rw [ha, hb, lcs_front, lcs_back]
  have la := congrArg List.length ha
  have lb := congrArg List.length hb
  rw [List.length_append, List.length_append] at la lb
  have hm : x.length * y.length ≤ 65536 := Nat.le_trans (mul_le (by omega) (by omega)) h
  unfold D
  rw [hx, hy, if_pos hm, hl, la, lb]
  have := size_go x y (fr a b) 0 []
  simp at this ⊢
  omega
theorem play_emit (a : Ls) (pos : Nat) (x y s : Ls) (at_ : Nat) (h : at_ ≤ pos) (h2 : a.drop pos = x ++ s) : play a at_ (emit pos x.length y) = (a.drop at_).take (pos - at_) ++ y ++ s := by
  unfold emit
  split
  · rename_i hd
    obtain rfl : x = [] := List.eq_nil_of_length_eq_zero hd.1
    rw [hd.2, play, List.append_nil, ← List.nil_append s, ← h2]
    exact drop_split a at_ pos h
  · simp only [play, Int.toNat_natCast]
    rw [← List.drop_drop, h2, List.drop_left]
theorem D_play (a b : Ls) : play a 0 (D a b) = b := by
  obtain ⟨p, s, x, y, ha, hb, hf, he, hx, hy⟩ := parts a b
  have hd : a.drop (fr a b) = x ++ s := by rw [hf]; conv => lhs; rw [ha]
                                           rw [List.drop_left]
  have ht : a.take (fr a b) = p := by rw [hf]; conv => lhs; rw [ha]
                                      rw [List.take_left]
  unfold D
  rw [hx, hy]
  split
  · rw [play_go a s x y (fr a b) 0 [] 0 (Nat.zero_le _) hd, List.drop_zero, Nat.sub_zero, ht, List.append_nil]
    conv => rhs; rw [hb]
    rw [List.append_assoc]
  · rw [play_emit a (fr a b) x y s 0 (Nat.zero_le _) hd, List.drop_zero, Nat.sub_zero, ht]
    conv => rhs; rw [hb]
    rw [List.append_assoc]
theorem D_right (a b : Ls) : right a.length (-1) (D a b) = true := by
  obtain ⟨p, s, x, y, ha, hb, hf, he, hx, hy⟩ := parts a b
  have la := congrArg List.length ha
  rw [List.length_append, List.length_append] at la
  unfold D
  rw [hx, hy]
  split
  · exact right_go _ _ _ _ _ _ _ (by omega) (by omega)
  · have := right_emit a.length (-1) (fr a b) x.length y [] (by omega) (by omega) (fun _ _ => rfl)
    rwa [List.append_nil] at this
theorem D_self (a : Ls) : D a a = [] := by
  have hf : fr a a = a.length := by
    refine (fr_is a a).uniq ⟨by omega, fun j _ => by simp [frP], fun h => by omega⟩
  have he : bk a a = 0 := by
    have := (bk_is a a).le
    omega
  unfold D
  rw [hf, he]
  simp [mid, go_nil, emit]
theorem D_nil {a b : Ls} (h : D a b = []) : a = b := by
  have := D_play a b
  rw [h, play] at this
  simpa using this
theorem D_nil_iff (a b : Ls) : ((D a b).length = 0) ↔ a = b :=
  ⟨fun h => D_nil (List.eq_nil_of_length_eq_zero h), fun h => by rw [h, D_self]; rfl⟩

/-- the same edits, further on -/
def shift (n : Nat) (l : List Ed) : List Ed := l.map fun e => ⟨e.pos + n, e.del, e.ins⟩
theorem shift_emit (n pos del : Nat) (ins : Ls) : emit (pos + n) del ins = shift n (emit pos del ins) := by
  unfold emit shift
  split
  · rfl
  · simp
theorem shift_go (n : Nat) (x y : Ls) (pos del : Nat) (ins : Ls) : go x y (pos + n) del ins = shift n (go x y pos del ins) := by
  have key : ∀ (m : Nat) (x y : Ls) (pos del : Nat) (ins : Ls), x.length + y.length ≤ m → go x y (pos + n) del ins = shift n (go x y pos del ins) := by
    intro m
    induction m with
    | zero =>
      intro x y pos del ins h
      obtain rfl : x = [] := List.eq_nil_of_length_eq_zero (by omega)
      obtain rfl : y = [] := List.eq_nil_of_length_eq_zero (by omega)
      rw [go_nil, go_nil, shift_emit]
    | succ m ih =>
      intro x y pos del ins h
      cases x with
      | nil =>
        cases y with
        | nil => rw [go_nil, go_nil, shift_emit]
        | cons b y => rw [go_come, go_come]; exact ih _ _ _ _ _ (by simp at h ⊢; omega)
      | cons a x =>
        cases y with
        | nil => rw [go_gone, go_gone]; exact ih _ _ _ _ _ (by simp at h ⊢; omega)
        | cons b y =>
          simp only [List.length_cons] at h
          rw [go_both, go_both]
          split
          · have e : pos + n + del + 1 = pos + del + 1 + n := by omega
            rw [e, ih x y _ _ _ (by omega), shift_emit]
            simp [shift]
          · split
            · exact ih _ _ _ _ _ (by simp; omega)
            · exact ih _ _ _ _ _ (by simp; omega)
  exact key _ x y pos del ins (Nat.le_refl _)
theorem getD_mid (F a G : Ls) (i : Nat) (h : i < a.length) : (F ++ (a ++ G)).getD (F.length + i) [] = a.getD i [] := by
  simp [List.getD_eq_getElem?_getD, List.getElem?_append_right, List.getElem?_append_left h]
theorem getD_front (F r : Ls) (i : Nat) (h : i < F.length) : (F ++ r).getD i [] = F.getD i [] := by
  simp [List.getD_eq_getElem?_getD, List.getElem?_append_left h]
theorem getD_back (F a G : Ls) (i : Nat) : (F ++ (a ++ G)).getD (F.length + (a.length + i)) [] = G.getD i [] := by
  simp [List.getD_eq_getElem?_getD, List.getElem?_append_right]
theorem getD_mem {l : Ls} {i : Nat} (h : i < l.length) : l.getD i [] ∈ l := by simp [List.getElem?_eq_getElem h]
theorem getD_rep (n i : Nat) (z : List UInt8) (h : i < n) : (List.replicate n z).getD i [] = z := by simp [h]
/-- what both have around changes nothing -/
theorem D_around (a b : Ls) (n m : Nat) (z : List UInt8) (ha : z ∉ a) (hb : z ∉ b) :
    D (List.replicate n z ++ (a ++ List.replicate m z)) (List.replicate n z ++ (b ++ List.replicate m z)) = shift n (D a b) := by
  by_cases hab : a = b
  · subst hab; rw [D_self, D_self]; rfl
  obtain ⟨F, hF⟩ : ∃ F, F = List.replicate n z := ⟨_, rfl⟩
  obtain ⟨G, hG⟩ : ∃ G, G = List.replicate m z := ⟨_, rfl⟩
  rw [← hF, ← hG]
  have lF : F.length = n := by rw [hF]; simp
  have lG : G.length = m := by rw [hG]; simp
  have hf := fr_is a b
  have he := bk_is a b
  obtain ⟨f, hfe⟩ : ∃ f, f = fr a b := ⟨_, rfl⟩
  obtain ⟨e, hee⟩ : ∃ e, e = bk a b := ⟨_, rfl⟩
  rw [← hfe] at hf he
  rw [← hee] at he
  have hf1 := hf.le
  have he1 := he.le
  have hnotboth : ¬ (f = a.length ∧ f = b.length) := by
    rintro ⟨h1, h2⟩
    refine hab (ext_getD (by omega) fun j hj => ?_)
    have := hf.all j (by omega)
    simpa [frP] using this
  have lA : (F ++ (a ++ G)).length = n + (a.length + m) := by simp [lF, lG]
  have lB : (F ++ (b ++ G)).length = n + (b.length + m) := by simp [lF, lG]
  have gA : ∀ i, i < a.length → (F ++ (a ++ G)).getD (n + i) [] = a.getD i [] := fun i h => by rw [← lF]; exact getD_mid F a G i h
  have gB : ∀ i, i < b.length → (F ++ (b ++ G)).getD (n + i) [] = b.getD i [] := fun i h => by rw [← lF]; exact getD_mid F b G i h
  have zA : ∀ i, i < m → (F ++ (a ++ G)).getD (n + (a.length + i)) [] = z := fun i h => by rw [← lF, getD_back, hG, getD_rep _ _ _ h]
  have zB : ∀ i, i < m → (F ++ (b ++ G)).getD (n + (b.length + i)) [] = z := fun i h => by rw [← lF, getD_back, hG, getD_rep _ _ _ h]
  have nA : ∀ i, i < a.length → a.getD i [] ≠ z := fun i h hz => ha (hz ▸ getD_mem h)
  have nB : ∀ i, i < b.length → b.getD i [] ≠ z := fun i h hz => hb (hz ▸ getD_mem h)
  have hfr : fr (F ++ (a ++ G)) (F ++ (b ++ G)) = n + f := by
    refine (fr_is _ _).uniq ⟨by rw [lA, lB]; omega, fun j hj => ?_, fun hlt => ?_⟩
    · simp only [frP, decide_eq_true_eq]
      rcases Nat.lt_or_ge j n with hjn | hjn
      · rw [getD_front _ _ _ (by omega), getD_front _ _ _ (by omega)]
      · obtain ⟨i, rfl⟩ : ∃ i, j = n + i := ⟨j - n, by omega⟩
        rw [gA i (by omega), gB i (by omega)]
        have := hf.all i (by omega)
        simpa [frP] using this
    · rw [lA, lB] at hlt
      simp only [frP, decide_eq_false_iff_not]
      rcases Nat.lt_or_ge f a.length with h1 | h1
      · rcases Nat.lt_or_ge f b.length with h2 | h2
        · rw [gA f h1, gB f h2]
          have := hf.stop (by omega)
          simpa [frP] using this
        · obtain rfl : f = b.length := by omega
          rw [gA _ h1, show n + b.length = n + (b.length + 0) from rfl, zB 0 (by omega)]
          exact nA _ h1
      · obtain rfl : f = a.length := by omega
        rw [gB _ (by omega), show n + a.length = n + (a.length + 0) from rfl, zA 0 (by omega)]
        exact fun h => nB _ (by omega) h.symm
  have hbk : bk (F ++ (a ++ G)) (F ++ (b ++ G)) = m + e := by
    refine (bk_is _ _).uniq ⟨by rw [lA, lB, hfr]; omega, fun j hj => ?_, fun hlt => ?_⟩
    · simp only [bkP, decide_eq_true_eq, lA, lB]
      rcases Nat.lt_or_ge j m with hjn | hjn
      · rw [show n + (a.length + m) - 1 - j = n + (a.length + (m - 1 - j)) from by omega, zA _ (by omega), show n + (b.length + m) - 1 - j = n + (b.length + (m - 1 - j)) from by omega, zB _ (by omega)]
      · rw [show n + (a.length + m) - 1 - j = n + (a.length - 1 - (j - m)) from by omega, gA _ (by omega), show n + (b.length + m) - 1 - j = n + (b.length - 1 - (j - m)) from by omega, gB _ (by omega)]
        have := he.all (j - m) (by omega)
        simpa [bkP] using this
    · rw [lA, lB, hfr] at hlt
      simp only [bkP, decide_eq_false_iff_not, lA, lB]
      rw [show n + (a.length + m) - 1 - (m + e) = n + (a.length - 1 - e) from by omega, gA _ (by omega), show n + (b.length + m) - 1 - (m + e) = n + (b.length - 1 - e) from by omega, gB _ (by omega)]
      have := he.stop (by omega)
      simpa [bkP] using this
  have hmid : ∀ c : Ls, f + e ≤ c.length → mid (F ++ (c ++ G)) (n + f) (m + e) = mid c f e := by
    intro c hc
    unfold mid
    have lC : (F ++ (c ++ G)).length = n + (c.length + m) := by simp [lF, lG]
    rw [lC, ← lF, ← List.drop_drop, List.drop_left, List.drop_append_of_le_length (by omega), lF, show n + (c.length + m) - (m + e) - (n + f) = c.length - e - f from by omega, List.take_append_of_le_length (by rw [List.length_drop]; omega)]
  unfold D
  rw [hfr, hbk, hmid a (by omega), hmid b (by omega), ← hfe, ← hee, Nat.add_comm n f, shift_go, shift_emit]
  split <;> rfl
/-- of two lists that are too long all of the middle goes, and comes -/
theorem D_long (n m k : Nat) (x y z : List UInt8) (hxy : x ≠ y) (hk : 65536 < k * k) :
    D (List.replicate n z ++ (List.replicate k x ++ List.replicate m z)) (List.replicate n z ++ (List.replicate k y ++ List.replicate m z)) = [⟨n, k, List.replicate k y⟩] := by
  have hk0 : 0 < k := by
    rcases Nat.eq_zero_or_pos k with h | h
    · subst h; simp at hk
    · exact h
  obtain ⟨F, hF⟩ : ∃ F, F = List.replicate n z := ⟨_, rfl⟩
  obtain ⟨G, hG⟩ : ∃ G, G = List.replicate m z := ⟨_, rfl⟩
  rw [← hF, ← hG]
  have lF : F.length = n := by rw [hF]; simp
  have lG : G.length = m := by rw [hG]; simp
  have lC : ∀ c : List UInt8, (F ++ (List.replicate k c ++ G)).length = n + (k + m) := fun c => by simp [lF, lG]
  have gC : ∀ (c : List UInt8) (i : Nat), i < k → (F ++ (List.replicate k c ++ G)).getD (n + i) [] = c := fun c i h => by
    rw [← lF, getD_mid F _ G i (by simpa using h), getD_rep _ _ _ h]
  have zC : ∀ (c : List UInt8) (i : Nat), i < m → (F ++ (List.replicate k c ++ G)).getD (n + (k + i)) [] = z := fun c i h => by
    have := getD_back F (List.replicate k c) G i
    rw [List.length_replicate, lF] at this
    rw [this, hG, getD_rep _ _ _ h]
  have hfr : fr (F ++ (List.replicate k x ++ G)) (F ++ (List.replicate k y ++ G)) = n := by
    refine (fr_is _ _).uniq ⟨by rw [lC, lC]; omega, fun j hj => ?_, fun _ => ?_⟩
    · simp only [frP, decide_eq_true_eq]
      rw [getD_front _ _ _ (by omega), getD_front _ _ _ (by omega)]
    · simp only [frP, decide_eq_false_iff_not]
      have h1 := gC x 0 hk0
      have h2 := gC y 0 hk0
      rw [Nat.add_zero] at h1 h2
      rw [h1, h2]
      exact hxy
  have hbk : bk (F ++ (List.replicate k x ++ G)) (F ++ (List.replicate k y ++ G)) = m := by
    refine (bk_is _ _).uniq ⟨by rw [lC, lC, hfr]; omega, fun j hj => ?_, fun _ => ?_⟩
    · simp only [bkP, decide_eq_true_eq, lC]
      rw [show n + (k + m) - 1 - j = n + (k + (m - 1 - j)) from by omega, zC _ _ (by omega), zC _ _ (by omega)]
    · simp only [bkP, decide_eq_false_iff_not, lC]
      rw [show n + (k + m) - 1 - m = n + (k - 1) from by omega, gC _ _ (by omega), gC _ _ (by omega)]
      exact hxy
  have hmid : ∀ c : List UInt8, mid (F ++ (List.replicate k c ++ G)) n m = List.replicate k c := by
    intro c
    unfold mid
    rw [lC, ← lF, List.drop_left, lF, show n + (k + m) - m - n = k from by omega, List.take_left' (by simp)]
  unfold D
  rw [hfr, hbk, hmid x, hmid y, List.length_replicate, List.length_replicate, if_neg (by omega)]
  unfold emit
  rw [if_neg (by omega)]
end Go.Proofs.Ytofccahgmkifjaa.Df
namespace Go.Proofs.Ytofccahgmkifjaa.Al
open Go.Proofs.Ytofccahgmkifjaa.Df

/-- the edits of two sides, by their places -/
def mrg : List Ed → List Ed → List (Bool × Ed)
  | [], ys => ys.map fun e => (true, e)
  | e :: xs, [] => (false, e) :: mrg xs []
  | e :: xs, f :: ys => if e.pos ≤ f.pos then (false, e) :: mrg xs (f :: ys) else (true, f) :: mrg (e :: xs) ys
termination_by xs ys => xs.length + ys.length
/-- which side is next -/
def sd : List Ed → List Ed → Bool
  | [], _ => true
  | _ :: _, [] => false
  | e :: _, f :: _ => decide (f.pos < e.pos)
theorem mrg_nil : mrg [] [] = [] := by rw [mrg]; rfl
theorem mrg_cons (xs ys : List Ed) (h : xs ≠ [] ∨ ys ≠ []) :
    (sd xs ys = false ∧ ∃ e r, xs = e :: r ∧ mrg xs ys = (false, e) :: mrg r ys) ∨ (sd xs ys = true ∧ ∃ e r, ys = e :: r ∧ mrg xs ys = (true, e) :: mrg xs r) := by
  cases xs with
  | nil =>
    cases ys with
    | nil => simp at h
    | cons f ys => exact .inr ⟨rfl, f, ys, rfl, by rw [mrg, mrg]; rfl⟩
  | cons e xs =>
    cases ys with
    | nil => exact .inl ⟨rfl, e, xs, rfl, by rw [mrg]⟩
    | cons f ys =>
      by_cases hp : e.pos ≤ f.pos
      · exact .inl ⟨by simp [sd]; omega, e, xs, rfl, by rw [mrg, if_pos hp]⟩
      · exact .inr ⟨by simp [sd]; omega, f, ys, rfl, by rw [mrg, if_neg hp]⟩
theorem mrg_len : ∀ (n : Nat) (xs ys : List Ed), xs.length + ys.length ≤ n → (mrg xs ys).length = xs.length + ys.length
  | _, [], ys, _ => by rw [mrg]; simp
  | 0, e :: xs, _, h => by simp at h
  | n + 1, e :: xs, [], h => by
    rw [mrg, List.length_cons, mrg_len n xs [] (by simp at h ⊢; omega)]; simp
  | n + 1, e :: xs, f :: ys, h => by
    simp at h
    rw [mrg]
    split
    · rw [List.length_cons, mrg_len n xs (f :: ys) (by simp; omega)]; simp; omega
    · rw [List.length_cons, mrg_len n (e :: xs) ys (by simp; omega)]; simp; omega
/-- one side's -/
def ofS (s : Bool) (l : List (Bool × Ed)) : List Ed := (l.filter fun p => p.1 == s).map (·.2)
theorem ofS_nil (s : Bool) : ofS s [] = [] := rfl
theorem ofS_same (s : Bool) (e : Ed) (l : List (Bool × Ed)) : ofS s ((s, e) :: l) = e :: ofS s l := by simp [ofS]
theorem ofS_other (s t : Bool) (h : t ≠ s) (e : Ed) (l : List (Bool × Ed)) : ofS s ((t, e) :: l) = ofS s l := by simp [ofS, h]
theorem ofS_append (s : Bool) (l r : List (Bool × Ed)) : ofS s (l ++ r) = ofS s l ++ ofS s r := by simp [ofS]
theorem ofS_all : ∀ ys : List Ed, ofS true (ys.map fun e => (true, e)) = ys
  | [] => rfl
  | f :: ys => by rw [List.map_cons, ofS_same, ofS_all ys]
theorem ofS_mrg : ∀ (n : Nat) (xs ys : List Ed), xs.length + ys.length ≤ n → ofS false (mrg xs ys) = xs ∧ ofS true (mrg xs ys) = ys
  | _, [], ys, _ => by
    rw [mrg]
    exact ⟨by simp [ofS], ofS_all ys⟩
  | 0, e :: xs, _, h => by simp at h
  | n + 1, e :: xs, [], h => by
    obtain ⟨h1, h2⟩ := ofS_mrg n xs [] (by simp at h ⊢; omega)
    rw [mrg, ofS_same, ofS_other _ _ (by decide), h1, h2]
    exact ⟨rfl, rfl⟩
  | n + 1, e :: xs, f :: ys, h => by
    simp at h
    rw [mrg]
    split
    · obtain ⟨h1, h2⟩ := ofS_mrg n xs (f :: ys) (by simp; omega)
      rw [ofS_same, ofS_other _ _ (by decide), h1, h2]
      exact ⟨rfl, rfl⟩
    · obtain ⟨h1, h2⟩ := ofS_mrg n (e :: xs) ys (by simp; omega)
      rw [ofS_same, ofS_other _ _ (by decide), h1, h2]
      exact ⟨rfl, rfl⟩

/-- a cluster: its lines of o; of either side how many edits it has, and how many lines more come than go -/
structure Cl where
  fr : Int
  to : Int
  n0 : Int
  m0 : Int
  n1 : Int
  m1 : Int
def Cl.zero (p : Int) : Cl := ⟨p, 0, 0, 0, 0, 0⟩
def Cl.take (c : Cl) (s : Bool) (e : Ed) : Cl :=
  if s then ⟨c.fr, max c.to (e.pos + e.del), c.n0, c.m0, c.n1 + 1, c.m1 + (e.ins.length - e.del)⟩
  else ⟨c.fr, max c.to (e.pos + e.del), c.n0 + 1, c.m0 + (e.ins.length - e.del), c.n1, c.m1⟩
/-- a cluster takes what meets it -/
def grow : Cl → List (Bool × Ed) → Cl × List (Bool × Ed)
  | c, [] => (c, [])
  | c, (s, e) :: r => if c.to < e.pos then (c, (s, e) :: r) else grow (c.take s e) r
theorem grow_len : ∀ (c : Cl) (l : List (Bool × Ed)), (grow c l).2.length ≤ l.length
  | c, [] => Nat.le_refl _
  | c, (s, e) :: r => by
    rw [grow]
    split
    · exact Nat.le_refl _
    · have := grow_len (c.take s e) r; simp; omega
/-- a region -/
structure Rg where
  kind : Int
  o0 : Int
  on : Int
  a0 : Int
  an : Int
  b0 : Int
  bn : Int
deriving DecidableEq
def cut (l : Ls) (x n : Int) : Ls := (l.drop x.toNat).take n.toNat
def kindOf (c : Cl) (p q : Ls) : Int := if c.n0 = 0 ∧ c.n1 = 0 then 0 else if c.n1 = 0 then 1 else if c.n0 = 0 then 2 else if p = q then 3 else 4
/-- how far all three are gone through; the regions so far -/
structure St where
  x : Int
  y : Int
  z : Int
  l : List Rg
def St.add (a b : Ls) (s : St) (c : Cl) : St :=
  ⟨s.x + (c.to - c.fr), s.y + (c.to - c.fr + c.m0), s.z + (c.to - c.fr + c.m1),
    s.l ++ [⟨kindOf c (cut a s.y (c.to - c.fr + c.m0)) (cut b s.z (c.to - c.fr + c.m1)), s.x, c.to - c.fr, s.y, c.to - c.fr + c.m0, s.z, c.to - c.fr + c.m1⟩]⟩
def St.keep (a b : Ls) (s : St) (t : Int) : St := if s.x < t then s.add a b ⟨s.x, t, 0, 0, 0, 0⟩ else s
def loop (a b : Ls) : St → List (Bool × Ed) → St
  | s, [] => s
  | s, (d, e) :: r => loop a b ((s.keep a b (grow ((Cl.zero e.pos).take d e) r).1.fr).add a b (grow ((Cl.zero e.pos).take d e) r).1) (grow ((Cl.zero e.pos).take d e) r).2
termination_by _ l => l.length
decreasing_by have := grow_len ((Cl.zero e.pos).take d e) r; simp; omega
theorem loop_nil (a b : Ls) (s : St) : loop a b s [] = s := by rw [loop]
theorem loop_cons (a b : Ls) (s : St) (d : Bool) (e : Ed) (r : List (Bool × Ed)) : loop a b s ((d, e) :: r) = loop a b ((s.keep a b (grow ((Cl.zero e.pos).take d e) r).1.fr).add a b (grow ((Cl.zero e.pos).take d e) r).1) (grow ((Cl.zero e.pos).take d e) r).2 := by rw [loop]
def regs (o a b : Ls) : List Rg := ((loop a b ⟨0, 0, 0, []⟩ (mrg (D o a) (D o b))).keep a b o.length).l

/-! What is taken, and what it makes of o's lines. -/
/-- the edits that were taken -/
def tak : Cl → List (Bool × Ed) → List (Bool × Ed)
  | _, [] => []
  | c, (s, e) :: r => if c.to < e.pos then [] else (s, e) :: tak (c.take s e) r
theorem tak_grow : ∀ (c : Cl) (l : List (Bool × Ed)), tak c l ++ (grow c l).2 = l
  | c, [] => rfl
  | c, (s, e) :: r => by
    rw [tak, grow]
    split
    · rfl
    · rw [List.cons_append, tak_grow]
/-- how many lines more come than go -/
def more : List Ed → Int
  | [] => 0
  | e :: l => (e.ins.length - e.del) + more l
theorem more_append : ∀ l r : List Ed, more (l ++ r) = more l + more r
  | [], r => by simp [more]
  | e :: l, r => by rw [List.cons_append, more, more, more_append l r]; omega
def ends : Int → List (Bool × Ed) → Int
  | t, [] => t
  | t, (_, e) :: r => ends (max t (e.pos + e.del)) r
theorem ends_ge : ∀ (t : Int) (l : List (Bool × Ed)), t ≤ ends t l
  | _, [] => Int.le_refl _
  | t, (_, e) :: r => by have := ends_ge (max t (e.pos + e.del)) r; rw [ends]; omega
theorem ends_mem : ∀ (t : Int) (l : List (Bool × Ed)) (p : Bool × Ed), p ∈ l → p.2.pos + p.2.del ≤ ends t l
  | _, [], p, h => by cases h
  | t, (s, e) :: r, p, h => by
    rw [ends]
    rcases List.mem_cons.1 h with rfl | h
    · have := ends_ge (max t (e.pos + e.del)) r; simp; omega
    · exact ends_mem _ r p h
theorem ends_le : ∀ (t u : Int) (l : List (Bool × Ed)), t ≤ u → (∀ p ∈ l, p.2.pos + p.2.del ≤ u) → ends t l ≤ u
  | t, u, [], h, _ => h
  | t, u, (s, e) :: r, h, hl => by
    rw [ends]
    exact ends_le _ u r (by have := hl (s, e) (by simp); simp at this; omega) fun p hp => hl p (by simp [hp])
theorem grow_is : ∀ (c : Cl) (l : List (Bool × Ed)), (grow c l).1 = ⟨c.fr, ends c.to (tak c l), c.n0 + (ofS false (tak c l)).length, c.m0 + more (ofS false (tak c l)), c.n1 + (ofS true (tak c l)).length, c.m1 + more (ofS true (tak c l))⟩
  | c, [] => by simp [grow, tak, ends, ofS, more]
  | c, (s, e) :: r => by
    rw [grow, tak]
    split
    · simp [ends, ofS, more]
    · rw [grow_is, ends]
      cases s
      · rw [ofS_same, ofS_other _ _ (by decide)]
        simp only [Cl.take, more, List.length_cons]
        simp
        exact ⟨by omega, by omega⟩
      · rw [ofS_same, ofS_other _ _ (by decide)]
        simp only [Cl.take, more, List.length_cons]
        simp
        exact ⟨by omega, by omega⟩
end Go.Proofs.Ytofccahgmkifjaa.Al
namespace Go.Proofs.Ytofccahgmkifjaa.Al
open Go.Proofs.Ytofccahgmkifjaa.Df

def holdsK (k : Int) (p q r : Ls) : Bool :=
  if k = 0 then decide (p = q) && decide (p = r) else if k = 1 then decide (p = r) else if k = 2 then decide (p = q) else if k = 3 then decide (q = r) else decide (k = 4)
/-- a span goes on where the one ahead ended, with lines that are there -/
def fol (n x f m : Int) : Bool := decide (f = x) && decide (0 ≤ m) && decide (m ≤ n - x)
theorem fol_yes {n x f m : Int} : fol n x f m = true ↔ f = x ∧ 0 ≤ m ∧ m ≤ n - x := by simp [fol, and_assoc]
def chk (o a b : Ls) (x y z : Int) (r : Rg) : Bool :=
  fol o.length x r.o0 r.on && fol a.length y r.a0 r.an && fol b.length z r.b0 r.bn && holdsK r.kind (cut o x r.on) (cut a y r.an) (cut b z r.bn)
/-- are regions right, from places on? -/
def okF (o a b : Ls) : Int → Int → Int → List Rg → Bool
  | x, y, z, [] => decide (x = o.length) && decide (y = a.length) && decide (z = b.length)
  | x, y, z, r :: l => chk o a b x y z r && okF o a b (x + r.on) (y + r.an) (z + r.bn) l
/-- regions that are right as far as they go -/
def Far (o a b : Ls) : Int → Int → Int → List Rg → Int → Int → Int → Prop
  | x, y, z, [], x', y', z' => x = x' ∧ y = y' ∧ z = z'
  | x, y, z, r :: l, x', y', z' => chk o a b x y z r = true ∧ Far o a b (x + r.on) (y + r.an) (z + r.bn) l x' y' z'
theorem Far.snoc {o a b : Ls} : ∀ {l : List Rg} {x y z x' y' z' : Int} {r : Rg}, Far o a b x y z l x' y' z' → chk o a b x' y' z' r = true → Far o a b x y z (l ++ [r]) (x' + r.on) (y' + r.an) (z' + r.bn)
  | [], _, _, _, _, _, _, _, h, hc => by
    obtain ⟨rfl, rfl, rfl⟩ := h
    exact ⟨hc, rfl, rfl, rfl⟩
  | _ :: _, _, _, _, _, _, _, _, h, hc => ⟨h.1, Far.snoc h.2 hc⟩
theorem Far.ok {o a b : Ls} : ∀ {l : List Rg} {x y z x' y' z' : Int}, Far o a b x y z l x' y' z' → x' = o.length → y' = a.length → z' = b.length → okF o a b x y z l = true
  | [], _, _, _, _, _, _, h, h1, h2, h3 => by
    obtain ⟨rfl, rfl, rfl⟩ := h
    simp [okF, h1, h2, h3]
  | _ :: _, _, _, _, _, _, _, h, h1, h2, h3 => by
    rw [okF, h.1, Far.ok h.2 h1 h2 h3]
    rfl
/-- what some edits make of o's lines from a place on, up to another one -/
def seg (o : Ls) : Nat → List Ed → Nat → Ls
  | at_, [], t => (o.drop at_).take (t - at_)
  | at_, e :: l, t => (o.drop at_).take (e.pos.toNat - at_) ++ e.ins ++ seg o (e.pos.toNat + e.del.toNat) l t
theorem play_keep (o : Ls) (at_ t : Nat) (l : List Ed) (h : at_ ≤ t) (ht : t ≤ o.length) (hl : ∀ e ∈ l, (t : Int) ≤ e.pos) : play o at_ l = (o.drop at_).take (t - at_) ++ play o t l := by
  cases l with
  | nil => rw [play, play]; exact drop_split o at_ t h
  | cons e l =>
    have hp := hl e (by simp)
    rw [play, play, ← List.append_assoc, ← List.append_assoc]
    congr 2
    have := drop_split (α := List UInt8) o at_ t h
    conv => lhs; rw [this]
    rw [List.take_append]
    have hlen : ((o.drop at_).take (t - at_)).length = t - at_ := by rw [List.length_take, List.length_drop]; omega
    rw [hlen, List.take_of_length_le (by rw [hlen]; omega)]
    congr 2
    omega
theorem play_seg (o : Ls) (t : Nat) (ht : t ≤ o.length) : ∀ (T R : List Ed) (at_ : Nat) (last : Int), -1 ≤ last → (at_ : Int) ≤ last + 1 → at_ ≤ t → right o.length last (T ++ R) = true →
    (∀ e ∈ T, e.pos + e.del ≤ t) → (∀ e ∈ R, (t : Int) ≤ e.pos) →
    play o at_ (T ++ R) = seg o at_ T t ++ play o t R ∧ ((seg o at_ T t).length : Int) = t - at_ + more T
  | [], R, at_, last, _, _, h, _, _, hR => by
    refine ⟨play_keep o at_ t R h ht hR, ?_⟩
    rw [seg, List.length_take, List.length_drop, more]
    omega
  | e :: T, R, at_, last, h1, h2, h, hr, hT, hR => by
    rw [List.cons_append] at hr
    obtain ⟨p, d, ep, ed, hpd, hlp, _, hr'⟩ := right_head hr h1
    have he := hT e (by simp)
    obtain ⟨i1, i2⟩ := play_seg o t ht T R (p + d) ((p + d : Nat) : Int) (by omega) (by omega) (by omega) hr' (fun e he => hT e (by simp [he])) hR
    rw [List.cons_append, play, seg]
    simp only [ep, ed, Int.toNat_natCast]
    rw [i1]
    refine ⟨by simp, ?_⟩
    rw [List.length_append, List.length_append, List.length_take, List.length_drop, more, ed]
    omega
theorem seg_ins (o : Ls) (t : Nat) (e : Ed) (T : List Ed) (at_ : Nat) : e.ins.length ≤ (seg o at_ (e :: T) t).length := by
  rw [seg]; simp; omega
/-! Right edits of two sides, by their places. -/
theorem right_low {n : Nat} : ∀ {last : Int} {l : List Ed}, right n last l = true → -1 ≤ last → ∀ e ∈ l, last < e.pos ∧ 0 ≤ e.del ∧ e.pos + e.del ≤ n ∧ (e.del ≠ 0 ∨ e.ins ≠ [])
  | _, [], _, _, e, he => by cases he
  | last, f :: l, h, hl, e, he => by
    obtain ⟨p, d, ep, ed, hpd, hlp, hd, hr'⟩ := right_head h hl
    rcases List.mem_cons.1 he with rfl | he
    · refine ⟨by omega, by omega, by omega, ?_⟩
      rcases hd with h | h
      · exact .inl (by omega)
      · exact .inr h
    · have := right_low hr' (by omega) e he
      exact ⟨by omega, this.2⟩
theorem right_more {n : Int} {last last' : Int} : ∀ {l : List Ed}, right n last l = true → (∀ e ∈ l, last' < e.pos) → right n last' l = true
  | [], _, _ => rfl
  | e :: l, h, hl => by
    rw [right_cons] at h ⊢
    exact ⟨⟨h.1.1, h.1.2.1, hl e (by simp), h.1.2.2.2⟩, h.2⟩
theorem right_back {n : Nat} : ∀ {last : Int} {T R : List Ed}, right n last (T ++ R) = true → -1 ≤ last → ∃ last', -1 ≤ last' ∧ right n last' R = true
  | last, [], _, h, hl => ⟨last, hl, h⟩
  | _, _ :: T, R, h, hl => by
    rw [List.cons_append] at h
    obtain ⟨p, d, _, _, _, _, _, hr'⟩ := right_head h hl
    exact right_back (T := T) hr' (by omega)
abbrev Srt (l : List (Bool × Ed)) : Prop := l.Pairwise fun p q => p.2.pos ≤ q.2.pos
theorem mem_ofS {s : Bool} {l : List (Bool × Ed)} {e : Ed} : e ∈ ofS s l ↔ (s, e) ∈ l := by
  simp only [ofS, List.mem_map, List.mem_filter]
  constructor
  · rintro ⟨p, ⟨h1, h2⟩, rfl⟩
    have : p.1 = s := by simpa using h2
    rw [← this]
    exact h1
  · intro h; exact ⟨(s, e), ⟨h, by simp⟩, rfl⟩
theorem mem_mrg {xs ys : List Ed} {p : Bool × Ed} (h : p ∈ mrg xs ys) : p.2 ∈ xs ∨ p.2 ∈ ys := by
  obtain ⟨h0, h1⟩ := ofS_mrg _ xs ys (Nat.le_refl _)
  obtain ⟨s, e⟩ := p
  cases s
  · have := mem_ofS.2 h; rw [h0] at this; exact .inl this
  · have := mem_ofS.2 h; rw [h1] at this; exact .inr this
theorem mrg_srt (n : Nat) : ∀ (k : Nat) (xs ys : List Ed) (l0 l1 : Int), xs.length + ys.length ≤ k → -1 ≤ l0 → -1 ≤ l1 → right n l0 xs = true → right n l1 ys = true → Srt (mrg xs ys)
  | k, xs, ys, l0, l1, hk, h0, h1, r0, r1 => by
    by_cases hn : xs = [] ∧ ys = []
    · obtain ⟨rfl, rfl⟩ := hn
      rw [mrg_nil]; exact List.Pairwise.nil
    · have hn' : xs ≠ [] ∨ ys ≠ [] := by
        by_cases hx : xs = []
        · exact .inr fun hy => hn ⟨hx, hy⟩
        · exact .inl hx
      cases k with
      | zero =>
        exfalso
        apply hn
        exact ⟨List.eq_nil_of_length_eq_zero (by omega), List.eq_nil_of_length_eq_zero (by omega)⟩
      | succ k =>
        have hs : ∀ (xs ys : List Ed), xs = xs → sd xs ys = false → ∀ e r, xs = e :: r → ∀ f s, ys = f :: s → e.pos ≤ f.pos := by
          intro xs ys _ h e r hx f s hy
          subst hx hy
          simp [sd] at h; omega
        have ht : ∀ (xs ys : List Ed), xs = xs → sd xs ys = true → ∀ e r, xs = e :: r → ∀ f s, ys = f :: s → f.pos ≤ e.pos := by
          intro xs ys _ h e r hx f s hy
          subst hx hy
          simp [sd] at h; omega
        rcases mrg_cons xs ys hn' with ⟨hd, e, r, hx, hm⟩ | ⟨hd, e, r, hy, hm⟩
        · rw [hm]
          subst hx
          obtain ⟨p, d, ep, ed, hpd, hlp, _, hr'⟩ := right_head r0 h0
          refine List.pairwise_cons.2 ⟨fun q hq => ?_, mrg_srt n k r ys _ l1 (by simp at hk; omega) (by omega) h1 hr' r1⟩
          rcases mem_mrg hq with hq | hq
          · have := right_low hr' (by omega) q.2 hq
            simp only; omega
          · cases ys with
            | nil => cases hq
            | cons f s =>
              have h3 := hs _ _ rfl hd e r rfl f s rfl
              obtain ⟨p', d', ep', ed', hpd', hlp', _, hr''⟩ := right_head r1 h1
              rcases List.mem_cons.1 hq with hq | hq
              · rw [hq]; exact h3
              · have := right_low hr'' (by omega) q.2 hq
                simp only; omega
        · rw [hm]
          subst hy
          obtain ⟨p, d, ep, ed, hpd, hlp, _, hr'⟩ := right_head r1 h1
          refine List.pairwise_cons.2 ⟨fun q hq => ?_, mrg_srt n k xs r l0 _ (by simp at hk; omega) h0 (by omega) r0 hr'⟩
          rcases mem_mrg hq with hq | hq
          · cases xs with
            | nil => cases hq
            | cons f s =>
              have h3 := ht _ _ rfl hd f s rfl e r rfl
              obtain ⟨p', d', ep', ed', hpd', hlp', _, hr''⟩ := right_head r0 h0
              rcases List.mem_cons.1 hq with hq | hq
              · rw [hq]; exact h3
              · have := right_low hr'' (by omega) q.2 hq
                simp only; omega
          · have := right_low hr' (by omega) q.2 hq
            simp only; omega
/-- what a cluster leaves lies behind it -/
theorem grow_rest : ∀ (c : Cl) (l : List (Bool × Ed)), Srt l → ∀ q ∈ (grow c l).2, (grow c l).1.to < q.2.pos
  | c, [], _, q, hq => by cases hq
  | c, (s, e) :: r, h, q, hq => by
    rw [grow] at hq ⊢
    by_cases hc : c.to < e.pos
    · rw [if_pos hc] at hq ⊢
      rcases List.mem_cons.1 hq with rfl | hq
      · exact hc
      · have := (List.pairwise_cons.1 h).1 q hq
        show c.to < q.2.pos
        simp only at this; omega
    · rw [if_neg hc] at hq ⊢
      exact grow_rest _ r (List.pairwise_cons.1 h).2 q hq
end Go.Proofs.Ytofccahgmkifjaa.Al
namespace Go.Proofs.Ytofccahgmkifjaa.Al
open Go.Proofs.Ytofccahgmkifjaa.Df

/-- no two stable ones are neighbours, and no two others -/
def Alt (l : List Rg) : Prop := ∀ i r r', l[i]? = some r → l[i + 1]? = some r' → ¬ (r.kind = 0 ↔ r'.kind = 0)
theorem Alt.snoc {l : List Rg} {r : Rg} (h : Alt l) (hr : ∀ q, l.getLast? = some q → ¬ (q.kind = 0 ↔ r.kind = 0)) : Alt (l ++ [r]) := by
  intro i p p' h1 h2
  rcases Nat.lt_or_ge (i + 1) l.length with hi | hi
  · rw [List.getElem?_append_left (by omega)] at h1
    rw [List.getElem?_append_left hi] at h2
    exact h i p p' h1 h2
  · have h3 : i + 1 = l.length := by
      have := (List.getElem?_eq_some_iff.1 h2).1
      simp at this; omega
    rw [List.getElem?_append_left (by omega)] at h1
    rw [List.getElem?_append_right hi, h3, Nat.sub_self] at h2
    simp at h2
    subst h2
    refine hr p ?_
    rw [List.getLast?_eq_getElem?, ← h1]
    congr 1
    omega
/-- what holds where a cluster begins -/
structure Inv (o a b : Ls) (s : St) (l : List (Bool × Ed)) : Prop where
  at_ : ∃ X Y Z : Nat, s.x = X ∧ s.y = Y ∧ s.z = Z ∧ X ≤ o.length ∧ Y ≤ a.length ∧ Z ≤ b.length ∧ a.drop Y = play o X (ofS false l) ∧ b.drop Z = play o X (ofS true l)
  last : ∃ last : Int, -1 ≤ last ∧ s.x ≤ last + 1 ∧ right o.length last (ofS false l) = true ∧ right o.length last (ofS true l) = true
  srt : Srt l
  far : Far o a b 0 0 0 s.l s.x s.y s.z
  alt : Alt s.l
  pos : ∀ r ∈ s.l, 1 ≤ r.on + r.an + r.bn
  gap : ∀ q, s.l.getLast? = some q → q.kind ≠ 0 ∧ ∀ p ∈ l, s.x < p.2.pos
theorem cut_is (l S R : Ls) (X : Nat) (n : Int) (h : l.drop X = S ++ R) (hn : (S.length : Int) = n) : cut l X n = S := by
  unfold cut
  rw [Int.toNat_natCast, h, ← hn, Int.toNat_natCast, List.take_left]
/-- one region more -/
theorem add_ok {o a b : Ls} {s : St} {c : Cl} {X Y Z t : Nat} {SA SB RA RB : Ls} (hx : s.x = X) (hy : s.y = Y) (hz : s.z = Z) (_hX : X ≤ o.length) (hY : Y ≤ a.length) (hZ : Z ≤ b.length) (hf : c.fr = X) (ht : c.to = t) (hXt : X ≤ t) (hto : t ≤ o.length)
    (ha : a.drop Y = SA ++ RA) (hb : b.drop Z = SB ++ RB) (hla : (SA.length : Int) = t - X + c.m0) (hlb : (SB.length : Int) = t - X + c.m1)
    (h0 : c.n0 = 0 → SA = (o.drop X).take (t - X)) (h1 : c.n1 = 0 → SB = (o.drop X).take (t - X)) (hfar : Far o a b 0 0 0 s.l s.x s.y s.z) :
    (s.add a b c).x = t ∧ (s.add a b c).y = (Y + SA.length : Nat) ∧ (s.add a b c).z = (Z + SB.length : Nat) ∧ Y + SA.length ≤ a.length ∧ Z + SB.length ≤ b.length ∧ a.drop (Y + SA.length) = RA ∧ b.drop (Z + SB.length) = RB ∧
    Far o a b 0 0 0 (s.add a b c).l (s.add a b c).x (s.add a b c).y (s.add a b c).z := by
  have e1 : c.to - c.fr = (t : Int) - X := by rw [hf, ht]
  have eo : cut o (X : Int) (t - X) = (o.drop X).take (t - X) := by unfold cut; rw [Int.toNat_natCast]; congr 1; omega
  have ca : cut a s.y (c.to - c.fr + c.m0) = SA := by rw [hy]; exact cut_is a SA RA Y _ ha (by rw [hla, e1])
  have cb : cut b s.z (c.to - c.fr + c.m1) = SB := by rw [hz]; exact cut_is b SB RB Z _ hb (by rw [hlb, e1])
  have la : SA.length ≤ a.length - Y := by rw [← List.length_drop, ha, List.length_append]; omega
  have lb : SB.length ≤ b.length - Z := by rw [← List.length_drop, hb, List.length_append]; omega
  have xa : (s.add a b c).x = (t : Int) := by show s.x + (c.to - c.fr) = _; omega
  have ya : (s.add a b c).y = ((Y + SA.length : Nat) : Int) := by show s.y + (c.to - c.fr + c.m0) = _; omega
  have za : (s.add a b c).z = ((Z + SB.length : Nat) : Int) := by show s.z + (c.to - c.fr + c.m1) = _; omega
  refine ⟨xa, ya, za, by omega, by omega, ?_, ?_, ?_⟩
  · rw [← List.drop_drop, ha, List.drop_left]
  · rw [← List.drop_drop, hb, List.drop_left]
  · refine Far.snoc hfar ?_
    unfold chk
    simp only [ca, cb]
    rw [hx, hy, hz, show cut o (X : Int) (c.to - c.fr) = (o.drop X).take (t - X) from by rw [e1, eo]]
    rw [Bool.and_eq_true, Bool.and_eq_true, Bool.and_eq_true, fol_yes, fol_yes, fol_yes]
    refine ⟨⟨⟨⟨rfl, by omega, by omega⟩, rfl, by omega, by omega⟩, rfl, by omega, by omega⟩, ?_⟩
    unfold holdsK kindOf
    by_cases k0 : c.n0 = 0
    · by_cases k1 : c.n1 = 0
      · simp [k0, k1, h0 k0, h1 k1]
      · simp [k0, k1, h0 k0]
    · by_cases k1 : c.n1 = 0
      · simp [k0, k1, h1 k1]
      · by_cases k2 : SA = SB
        · simp [k0, k1, k2]
        · simp [k0, k1, k2]
theorem add_last (a b : Ls) (s : St) (c : Cl) : (s.add a b c).l.getLast? = some ⟨kindOf c (cut a s.y (c.to - c.fr + c.m0)) (cut b s.z (c.to - c.fr + c.m1)), s.x, c.to - c.fr, s.y, c.to - c.fr + c.m0, s.z, c.to - c.fr + c.m1⟩ := by
  simp [St.add]
theorem kind_zero {c : Cl} {p q : Ls} (_h0 : 0 ≤ c.n0) (_h1 : 0 ≤ c.n1) : kindOf c p q = 0 ↔ c.n0 = 0 ∧ c.n1 = 0 := by
  unfold kindOf
  by_cases k0 : c.n0 = 0
  · by_cases k1 : c.n1 = 0 <;> simp [k0, k1]
  · by_cases k1 : c.n1 = 0
    · simp [k0, k1]
    · by_cases k2 : p = q <;> simp [k0, k1, k2]
/-- what stands ahead of a cluster, or behind the last one -/
theorem keep_ok {o a b : Ls} {s : St} {l : List (Bool × Ed)} (h : Inv o a b s l) (t : Nat) (ht : t ≤ o.length) (hl : ∀ p ∈ l, (t : Int) ≤ p.2.pos) (hs : s.x ≤ t) (hg : s.l ≠ [] → l = [] ∨ s.x < t) :
    ∃ Y Z : Nat, (s.keep a b t).x = t ∧ (s.keep a b t).y = Y ∧ (s.keep a b t).z = Z ∧ Y ≤ a.length ∧ Z ≤ b.length ∧ a.drop Y = play o t (ofS false l) ∧ b.drop Z = play o t (ofS true l) ∧
      Far o a b 0 0 0 (s.keep a b t).l (s.keep a b t).x (s.keep a b t).y (s.keep a b t).z ∧ Alt (s.keep a b t).l ∧ (∀ r ∈ (s.keep a b t).l, 1 ≤ r.on + r.an + r.bn) ∧
      (l ≠ [] → ∀ q, (s.keep a b t).l.getLast? = some q → q.kind = 0) := by
  obtain ⟨X, Y, Z, hx, hy, hz, hX, hY, hZ, ha, hb⟩ := h.at_
  have hXt : X ≤ t := by omega
  have pa := play_keep o X t (ofS false l) hXt ht fun e he => hl _ (mem_ofS.1 he)
  have pb := play_keep o X t (ofS true l) hXt ht fun e he => hl _ (mem_ofS.1 he)
  have ls : ((o.drop X).take (t - X)).length = t - X := by rw [List.length_take, List.length_drop]; omega
  unfold St.keep
  by_cases hlt : s.x < (t : Int)
  · rw [if_pos hlt]
    obtain ⟨a1, a2, a3, a4, a5, a6, a7, a8⟩ := add_ok (o := o) (c := ⟨s.x, t, 0, 0, 0, 0⟩) hx hy hz hX hY hZ hx rfl hXt ht (ha.trans pa) (hb.trans pb) (by rw [ls]; simp; omega) (by rw [ls]; simp; omega) (fun _ => rfl) (fun _ => rfl) h.far
    refine ⟨_, _, a1, a2, a3, a4, a5, a6, a7, a8, ?_, ?_, ?_⟩
    · refine h.alt.snoc fun q hq => ?_
      have := (h.gap q hq).1
      rw [kind_zero (by simp) (by simp)]
      simp [this]
    · intro r hr
      rcases List.mem_append.1 hr with hr | hr
      · exact h.pos r hr
      · simp at hr; subst hr; simp; omega
    · intro _ q hq
      rw [add_last] at hq
      cases hq
      rfl
  · rw [if_neg hlt]
    have e : X = t := by omega
    subst e
    refine ⟨Y, Z, hx, hy, hz, hY, hZ, ha, hb, h.far, h.alt, h.pos, fun hn q hq => ?_⟩
    rcases hg (fun e => by rw [e] at hq; cases hq) with h' | h'
    · exact absurd h' hn
    · exact absurd h' hlt
theorem take_first (d : Bool) (e : Ed) (h : 0 ≤ e.pos) (h' : 0 ≤ e.del) : (Cl.zero e.pos).take d e = ⟨e.pos, e.pos + e.del, if d then 0 else 1, if d then 0 else e.ins.length - e.del, if d then 1 else 0, if d then e.ins.length - e.del else 0⟩ := by
  cases d <;> simp [Cl.zero, Cl.take] <;> omega
/-- a cluster, with what stands ahead of it -/
theorem step_ok {o a b : Ls} {s : St} {d : Bool} {e : Ed} {r : List (Bool × Ed)} (h : Inv o a b s ((d, e) :: r)) :
    Inv o a b ((s.keep a b (grow ((Cl.zero e.pos).take d e) r).1.fr).add a b (grow ((Cl.zero e.pos).take d e) r).1) (grow ((Cl.zero e.pos).take d e) r).2 := by
  obtain ⟨last, hl1, hl2, hr0, hr1⟩ := h.last
  have hlow : ∀ p ∈ (d, e) :: r, last < p.2.pos ∧ 0 ≤ p.2.del ∧ p.2.pos + p.2.del ≤ o.length ∧ (p.2.del ≠ 0 ∨ p.2.ins ≠ []) := by
    rintro ⟨q, f⟩ hp
    cases q
    · exact right_low hr0 hl1 f (mem_ofS.2 hp)
    · exact right_low hr1 hl1 f (mem_ofS.2 hp)
  obtain ⟨e1, e2, e3, e4⟩ := hlow (d, e) (by simp)
  simp only at e1 e2 e3 e4
  obtain ⟨srt1, srt2⟩ := List.pairwise_cons.1 h.srt
  obtain ⟨c0, hc0⟩ : ∃ c0, c0 = (Cl.zero e.pos).take d e := ⟨_, rfl⟩
  have tf := take_first d e (by omega) e2
  rw [← hc0] at tf ⊢
  have htg := tak_grow c0 r
  have hgi := grow_is c0 r
  have hrest := grow_rest c0 r srt2
  obtain ⟨T, hT⟩ : ∃ T, T = tak c0 r := ⟨_, rfl⟩
  obtain ⟨R, hR⟩ : ∃ R, R = (grow c0 r).2 := ⟨_, rfl⟩
  rw [← hT] at htg hgi
  rw [← hR] at htg hrest ⊢
  obtain ⟨c, hc⟩ : ∃ c, c = (grow c0 r).1 := ⟨_, rfl⟩
  rw [← hc] at hgi hrest ⊢
  have htm : ∀ p ∈ T, p ∈ r := fun p hp => by rw [← htg]; exact List.mem_append_left _ hp
  have hte := ends_mem c0.to T
  have htl := ends_le c0.to o.length T (by rw [tf]; exact e3) fun p hp => (hlow p (by simp [htm p hp])).2.2.1
  have htg0 := ends_ge c0.to T
  have cfr : c.fr = e.pos := by rw [hgi, tf]
  have cto : c.to = ends c0.to T := by rw [hgi]
  have hto0 : c0.to = e.pos + e.del := by rw [tf]
  rw [← cto, hto0] at htg0
  obtain ⟨t, ht⟩ := Int.eq_ofNat_of_zero_le (show 0 ≤ c.to by omega)
  obtain ⟨p, hp⟩ := Int.eq_ofNat_of_zero_le (show 0 ≤ e.pos by omega)
  have hpt : p ≤ t := by omega
  have hto : t ≤ o.length := by rw [← cto] at htl; omega
  have key := keep_ok h p (by omega) (by
      rintro ⟨q, f⟩ hq
      rcases List.mem_cons.1 hq with h' | h'
      · cases h'; simp only; omega
      · have := srt1 _ h'; simp only at this ⊢; omega) (by omega) (fun hne => .inr (by
        obtain ⟨q, hq⟩ : ∃ q, s.l.getLast? = some q := by
          cases hg : s.l.getLast? with
          | none => exact absurd (List.getLast?_eq_none_iff.1 hg) hne
          | some q => exact ⟨q, rfl⟩
        have := (h.gap q hq).2 (d, e) (by simp)
        simp only at this; omega))
  rw [cfr, hp]
  obtain ⟨Y, Z, k1, k2, k3, k4, k5, k6, k7, k8, k9, k10, k11⟩ := key
  obtain ⟨s', hs'⟩ : ∃ s', s' = s.keep a b (p : Int) := ⟨_, rfl⟩
  rw [← hs'] at k1 k2 k3 k8 k9 k10 k11 ⊢
  have hofs : ∀ q, ofS q ((d, e) :: r) = ofS q ((d, e) :: T) ++ ofS q R := fun q => by rw [← ofS_append, List.cons_append, htg]
  have hTend : ∀ q, ∀ f ∈ ofS q ((d, e) :: T), f.pos + f.del ≤ t := by
    intro q f hf
    rcases List.mem_cons.1 (mem_ofS.1 hf) with h' | h'
    · cases h'; omega
    · have := hte _ h'; rw [← cto] at this; simp only at this; omega
  have hRpos : ∀ q, ∀ f ∈ ofS q R, (t : Int) < f.pos := fun q f hf => by have := hrest _ (mem_ofS.1 hf); simp only at this; omega
  have hpp : ∀ q, ∀ f ∈ ofS q ((d, e) :: r), (p : Int) - 1 < f.pos := by
    intro q f hf
    rcases List.mem_cons.1 (mem_ofS.1 hf) with h' | h'
    · cases h'; omega
    · have := srt1 _ h'; simp only at this; omega
  have s0 := play_seg o t hto (ofS false ((d, e) :: T)) (ofS false R) p (p - 1) (by omega) (by omega) hpt (by rw [← hofs]; exact right_more hr0 (hpp _)) (hTend false) fun f hf => by have := hRpos _ f hf; omega
  have s1 := play_seg o t hto (ofS true ((d, e) :: T)) (ofS true R) p (p - 1) (by omega) (by omega) hpt (by rw [← hofs]; exact right_more hr1 (hpp _)) (hTend true) fun f hf => by have := hRpos _ f hf; omega
  rw [hofs false, s0.1] at k6
  rw [hofs true, s1.1] at k7
  have cn0 : c.n0 = ((ofS false ((d, e) :: T)).length : Int) := by
    rw [hgi, tf]
    cases d
    · rw [ofS_same]; simp; omega
    · rw [ofS_other _ _ (by decide)]; simp
  have cn1 : c.n1 = ((ofS true ((d, e) :: T)).length : Int) := by
    rw [hgi, tf]
    cases d
    · rw [ofS_other _ _ (by decide)]; simp
    · rw [ofS_same]; simp; omega
  have cm0 : c.m0 = more (ofS false ((d, e) :: T)) := by
    rw [hgi, tf]
    cases d
    · rw [ofS_same, more]; simp
    · rw [ofS_other _ _ (by decide)]; simp
  have cm1 : c.m1 = more (ofS true ((d, e) :: T)) := by
    rw [hgi, tf]
    cases d
    · rw [ofS_other _ _ (by decide)]; simp
    · rw [ofS_same, more]; simp
  have hz : ∀ q, ((ofS q ((d, e) :: T)).length : Int) = 0 → seg o p (ofS q ((d, e) :: T)) t = (o.drop p).take (t - p) := fun q hq => by
    rw [List.eq_nil_of_length_eq_zero (by omega : (ofS q ((d, e) :: T)).length = 0)]; rfl
  obtain ⟨a1, a2, a3, a4, a5, a6, a7, a8⟩ := add_ok (c := c) k1 k2 k3 (by omega) k4 k5 (cfr.trans hp) ht hpt hto k6 k7 (by rw [s0.2, cm0]) (by rw [s1.2, cm1]) (fun h0 => hz false (by rw [← cn0]; exact h0)) (fun h1 => hz true (by rw [← cn1]; exact h1)) k8
  have hne : ¬ (c.n0 = 0 ∧ c.n1 = 0) := by
    rw [cn0, cn1]
    cases d
    · rw [ofS_same]; simp; omega
    · intro hh; rw [ofS_same] at hh; simp at hh; omega
  have hkind : ∀ u v, kindOf c u v ≠ 0 := fun u v hk => hne ((kind_zero (by rw [cn0]; omega) (by rw [cn1]; omega)).1 hk)
  refine ⟨⟨t, _, _, a1, a2, a3, hto, a4, a5, a6, a7⟩, ⟨t, by omega, by omega, ?_, ?_⟩, ?_, a8, ?_, ?_, ?_⟩
  · obtain ⟨l', _, h'⟩ := right_back (T := ofS false ((d, e) :: T)) (R := ofS false R) (by rw [← hofs]; exact hr0) hl1
    exact right_more h' (hRpos false)
  · obtain ⟨l', _, h'⟩ := right_back (T := ofS true ((d, e) :: T)) (R := ofS true R) (by rw [← hofs]; exact hr1) hl1
    exact right_more h' (hRpos true)
  · have : Srt (T ++ R) := by rw [htg]; exact srt2
    exact (List.pairwise_append.1 this).2.1
  · refine k9.snoc fun q hq => ?_
    have h0 := k11 (by simp) q hq
    simp [h0, hkind]
  · intro q hq
    rcases List.mem_append.1 hq with hq | hq
    · exact k10 q hq
    · simp at hq
      subst hq
      simp only
      have z0 : 0 ≤ ((seg o p (ofS false ((d, e) :: T)) t).length : Int) := by omega
      have z1 : 0 ≤ ((seg o p (ofS true ((d, e) :: T)) t).length : Int) := by omega
      have i : (e.ins.length : Int) ≤ (seg o p (ofS false ((d, e) :: T)) t).length ∨ (e.ins.length : Int) ≤ (seg o p (ofS true ((d, e) :: T)) t).length := by
        cases d
        · left; rw [ofS_same]; have := seg_ins o t e (ofS false T) p; omega
        · right; rw [ofS_same]; have := seg_ins o t e (ofS true T) p; omega
      rw [s0.2] at z0 i
      rw [s1.2] at z1 i
      rw [cm0, cm1, ht, cfr, hp]
      have hde : (e.pos + e.del : Int) ≤ t := by omega
      rcases e4 with h' | h'
      · omega
      · have : e.ins.length ≠ 0 := fun h0 => h' (List.eq_nil_of_length_eq_zero h0)
        omega
  · intro q hq
    rw [add_last] at hq
    cases hq
    exact ⟨hkind _ _, fun p hp => by rw [a1]; have := hrest p hp; omega⟩
theorem loop_inv {o a b : Ls} : ∀ (n : Nat) (s : St) (l : List (Bool × Ed)), l.length ≤ n → Inv o a b s l → Inv o a b (loop a b s l) []
  | _, s, [], _, h => by rw [loop_nil]; exact h
  | 0, s, _ :: _, hn, _ => by simp at hn
  | n + 1, s, (d, e) :: r, hn, h => by
    rw [loop_cons]
    refine loop_inv n _ _ ?_ (step_ok h)
    have := grow_len ((Cl.zero e.pos).take d e) r
    simp at hn; omega
theorem start_inv (o a b : Ls) : Inv o a b ⟨0, 0, 0, []⟩ (mrg (D o a) (D o b)) := by
  obtain ⟨h0, h1⟩ := ofS_mrg _ (D o a) (D o b) (Nat.le_refl _)
  refine ⟨⟨0, 0, 0, rfl, rfl, rfl, by simp, by simp, by simp, ?_, ?_⟩, ⟨-1, by simp, by simp, ?_, ?_⟩, ?_, ⟨rfl, rfl, rfl⟩, ?_, ?_, ?_⟩
  · rw [h0, D_play, List.drop_zero]
  · rw [h1, D_play, List.drop_zero]
  · rw [h0]; exact D_right o a
  · rw [h1]; exact D_right o b
  · exact mrg_srt o.length _ _ _ (-1) (-1) (Nat.le_refl _) (by simp) (by simp) (D_right o a) (D_right o b)
  · intro i r r' h; simp at h
  · intro r h; cases h
  · intro q h; cases h
/-- P8.3 on lists -/
theorem regs_ok (o a b : Ls) : okF o a b 0 0 0 (regs o a b) = true ∧ Alt (regs o a b) ∧ ∀ r ∈ regs o a b, 1 ≤ r.on + r.an + r.bn := by
  have h := loop_inv _ _ _ (Nat.le_refl _) (start_inv o a b)
  obtain ⟨X, _, _, hx, _, _, hX, _⟩ := h.at_
  obtain ⟨Y, Z, k1, k2, k3, k4, k5, k6, k7, k8, k9, k10, _⟩ := keep_ok h o.length (Nat.le_refl _) (by simp) (by omega) (fun _ => .inl rfl)
  refine ⟨k8.ok k1 ?_ ?_, k9, k10⟩
  · rw [ofS_nil, play, List.drop_length] at k6
    have := congrArg List.length k6
    simp at this; omega
  · rw [ofS_nil, play, List.drop_length] at k7
    have := congrArg List.length k7
    simp at this; omega
end Go.Proofs.Ytofccahgmkifjaa.Al
namespace Go.Proofs.Ytofccahgmkifjaa.Al
open Go.Proofs.Ytofccahgmkifjaa.Df

section
variable (n : Nat) (mt : Nat → Nat → Bool)
/-- by so many steps, each from one to one that it meets -/
def Rch : Nat → Nat → Nat → Prop
  | 0, j, i => i = j
  | t + 1, j, i => Rch t j i ∨ ∃ k, k < n ∧ mt i k = true ∧ Rch t j k
/-- in each set that is closed by what meets -/
def Con (i j : Nat) : Prop := ∀ S : Nat → Prop, (∀ x y, x < n → y < n → S x → mt x y = true → S y) → S i → S j
/-- marks: behind t turns, i of the next one, and k of i's -/
structure Mk (t i k : Nat) (L : List Int) : Prop where
  len : L.length = n
  dom : ∀ x, x < n → ∃ a : Nat, a < n ∧ L.getD x 0 = a ∧ Con n mt x a
  pr : ∀ x, x < n → ∀ j, j < n → Rch n mt t j x → L.getD x 0 ≤ j
  rows : ∀ x, x < i → x < n → ∀ j, j < n → Rch n mt (t + 1) j x → L.getD x 0 ≤ j
  cells : i < n → ∀ y, y < k → y < n → mt i y = true → ∀ j, j < n → Rch n mt t j y → L.getD i 0 ≤ j
end
section
variable {n : Nat} {mt : Nat → Nat → Bool}
theorem Rch.add {t j i : Nat} (h : Rch n mt t j i) : ∀ u, Rch n mt (t + u) j i
  | 0 => h
  | u + 1 => .inl (Rch.add h u)
theorem Rch.le {t u j i : Nat} (h : Rch n mt t j i) (hu : t ≤ u) : Rch n mt u j i := by
  have := h.add (u - t)
  rwa [show t + (u - t) = u by omega] at this
theorem Rch.trans : ∀ {t u i j k : Nat}, Rch n mt t j i → Rch n mt u k j → Rch n mt (u + t) k i
  | 0, u, i, j, k, h, h' => by
    obtain rfl : i = j := h
    exact h'
  | t + 1, u, i, j, k, h, h' => by
    rcases h with h | ⟨x, hx, hm, h⟩
    · exact .inl (h.trans h')
    · exact .inr ⟨x, hx, hm, h.trans h'⟩
theorem Rch.one {i j : Nat} (hj : j < n) (h : mt i j = true) : Rch n mt 1 j i := .inr ⟨j, hj, h, rfl⟩
theorem Rch.symm (hs : ∀ a b, mt a b = mt b a) : ∀ {t i j : Nat}, i < n → j < n → Rch n mt t j i → Rch n mt t i j
  | 0, _, _, _, _, h => Eq.symm h
  | t + 1, i, j, hi, hj, h => by
    rcases h with h | ⟨k, hk, hm, h⟩
    · exact .inl (h.symm hs hi hj)
    · have := (h.symm hs hk hj).trans (Rch.one hi (by rw [hs]; exact hm))
      rwa [Nat.add_comm 1 t] at this
theorem Con.refl (i : Nat) : Con n mt i i := fun _ _ h => h
theorem Con.step {i k a : Nat} (hi : i < n) (hk : k < n) (h : mt i k = true) (hc : Con n mt k a) : Con n mt i a := fun S hS hi' => hc S hS (hS i k hi hk hi' h)
theorem Mk.start {L : List Int} (hl : L.length = n) (hL : ∀ x, x < n → L.getD x 0 = x) : Mk n mt 0 0 0 L :=
  ⟨hl, fun x hx => ⟨x, hx, hL x hx, Con.refl x⟩, fun x hx j _ h => by
    obtain rfl : x = j := h
    rw [hL x hx]; exact Int.le_refl _, fun x hx => absurd hx (Nat.not_lt_zero _), fun _ y hy => absurd hy (Nat.not_lt_zero _)⟩
theorem getD_set (L : List Int) (i : Nat) (v : Int) (x : Nat) : (L.set i v).getD x 0 = if x = i ∧ i < L.length then v else L.getD x 0 := by
  rw [List.getD_eq_getElem?_getD, List.getElem?_set, List.getD_eq_getElem?_getD]
  by_cases h : i = x
  · subst h
    by_cases hi : i < L.length
    · simp [hi]
    · simp [hi]
  · rw [if_neg h, if_neg (fun e => h e.1.symm)]
theorem Mk.yes {t i k : Nat} {L : List Int} {v : Int} (h : Mk n mt t i k L) (hi : i < n) (hk : k < n) (hm : mt i k = true) (hv : v = min (L.getD i 0) (L.getD k 0)) : Mk n mt t i (k + 1) (L.set i v) := by
  have hle : ∀ x, (L.set i v).getD x 0 ≤ L.getD x 0 := fun x => by
    rw [getD_set]
    split
    · rename_i e; rw [e.1]; omega
    · exact Int.le_refl _
  have hown : (L.set i v).getD i 0 = v := by rw [getD_set, if_pos ⟨rfl, by rw [h.len]; exact hi⟩]
  refine ⟨by rw [List.length_set]; exact h.len, fun x hx => ?_, fun x hx j hj hr => Int.le_trans (hle x) (h.pr x hx j hj hr), fun x hx hx' j hj hr => Int.le_trans (hle x) (h.rows x hx hx' j hj hr), fun _ y hy hy' hmy j hj hr => ?_⟩
  · by_cases hxi : x = i
    · subst hxi
      rw [hown]
      rcases Int.le_total (L.getD x 0) (L.getD k 0) with hc | hc
      · rw [hv, Int.min_eq_left hc]; exact h.dom x hx
      · rw [hv, Int.min_eq_right hc]
        obtain ⟨a, h1, h2, h3⟩ := h.dom k hk
        exact ⟨a, h1, h2, h3.step hx hk hm⟩
    · rw [getD_set, if_neg (fun e => hxi e.1)]
      exact h.dom x hx
  · rcases Nat.lt_or_ge y k with hlt | hge
    · exact Int.le_trans (hle i) (h.cells hi y hlt hy' hmy j hj hr)
    · obtain rfl : y = k := by omega
      rw [hown, hv]
      exact Int.le_trans (Int.min_le_right _ _) (h.pr y hy' j hj hr)
theorem Mk.no {t i k : Nat} {L : List Int} (h : Mk n mt t i k L) (hm : mt i k = false) : Mk n mt t i (k + 1) L :=
  ⟨h.len, h.dom, h.pr, h.rows, fun hi y hy hy' hmy j hj hr => by
    rcases Nat.lt_or_ge y k with hlt | hge
    · exact h.cells hi y hlt hy' hmy j hj hr
    · obtain rfl : y = k := by omega
      rw [hm] at hmy; cases hmy⟩
theorem Mk.row {t i : Nat} {L : List Int} (h : Mk n mt t i n L) : Mk n mt t (i + 1) 0 L :=
  ⟨h.len, h.dom, h.pr, fun x hx hx' j hj hr => by
    rcases Nat.lt_or_ge x i with hlt | hge
    · exact h.rows x hlt hx' j hj hr
    · obtain rfl : x = i := by omega
      rcases hr with hr | ⟨k, hk, hm, hr⟩
      · exact h.pr x hx' j hj hr
      · exact h.cells hx' k hk hk hm j hj hr, fun _ y hy => absurd hy (Nat.not_lt_zero _)⟩
theorem Mk.turn {t : Nat} {L : List Int} (h : Mk n mt t n 0 L) : Mk n mt (t + 1) 0 0 L :=
  ⟨h.len, h.dom, fun x hx j hj hr => h.rows x hx hx j hj hr, fun _x hx => absurd hx (Nat.not_lt_zero _), fun _ _y hy => absurd hy (Nat.not_lt_zero _)⟩
/-- marks are one where they should -/
theorem Mk.same {L : List Int} (h : Mk n mt n 0 0 L) (hs : ∀ a b, mt a b = mt b a) (C : Nat → Prop) (hC : ∀ x y, x < n → y < n → C x → mt x y = true → C y)
    (hR : ∀ i j, i < n → j < n → C i → C j → Rch n mt n j i) {i j : Nat} (hi : i < n) (hj : j < n) (hCi : C i) : L.getD j 0 = L.getD i 0 ↔ C j := by
  obtain ⟨a, ha, ea, ca⟩ := h.dom i hi
  obtain ⟨b, hb, eb, cb⟩ := h.dom j hj
  have hCa : C a := ca C hC hCi
  constructor
  · intro e
    obtain rfl : b = a := by omega
    refine Classical.byContradiction fun hn => ?_
    refine cb (fun x => ¬ C x) (fun x y hx hy hnx hm hy' => hnx (hC y x hy hx hy' (by rw [hs]; exact hm))) hn hCa
  · intro hCj
    have hCb : C b := cb C hC hCj
    have h1 := h.pr j hj a ha (hR j a hj ha hCj hCa)
    have h2 := h.pr i hi b hb (hR i b hi hb hCi hCb)
    omega
end
end Go.Proofs.Ytofccahgmkifjaa.Al
namespace Go.Proofs.Ytofccahgmkifjaa.Al
open Go.Proofs.Ytofccahgmkifjaa.Df

/-- do two edits meet? -/
def meetE (e f : Ed) : Bool := decide (e.pos ≤ f.pos + f.del) && decide (f.pos ≤ e.pos + e.del)
theorem meetE_comm (e f : Ed) : meetE e f = meetE f e := Bool.and_comm _ _
theorem meetE_iff {e f : Ed} : meetE e f = true ↔ e.pos ≤ f.pos + f.del ∧ f.pos ≤ e.pos + e.del := by simp [meetE]
/-- each but the first begins where one ahead of it ends, at the latest -/
def Chn (T : List (Bool × Ed)) : Prop := ∀ (b : Nat) p, 0 < b → T[b]? = some p → ∃ (c : Nat) (q : Bool × Ed), c < b ∧ T[c]? = some q ∧ p.2.pos ≤ q.2.pos + q.2.del
theorem Chn.one (p : Bool × Ed) : Chn [p] := by
  intro b q hb h
  have := (List.getElem?_eq_some_iff.1 h).1
  simp at this; omega
theorem tak_chn : ∀ (l : List (Bool × Ed)) (c : Cl) (U : List (Bool × Ed)), Chn U → (∃ q ∈ U, c.to ≤ q.2.pos + q.2.del) → Chn (U ++ tak c l)
  | [], c, U, h, _ => by rw [tak, List.append_nil]; exact h
  | (s, e) :: r, c, U, h, ⟨q, hq, hc⟩ => by
    rw [tak]
    split
    · rw [List.append_nil]; exact h
    · rename_i hp
      have e1 : U ++ (s, e) :: tak (c.take s e) r = (U ++ [(s, e)]) ++ tak (c.take s e) r := by simp
      rw [e1]
      have hto : (c.take s e).to = max c.to (e.pos + e.del) := by cases s <;> rfl
      refine tak_chn r _ _ ?_ ?_
      · intro b p hb hbp
        rcases Nat.lt_or_ge b U.length with hlt | hge
        · rw [List.getElem?_append_left hlt] at hbp
          obtain ⟨k, x, hk, hx, hle⟩ := h b p hb hbp
          exact ⟨k, x, hk, by rw [List.getElem?_append_left (by omega)]; exact hx, hle⟩
        · obtain ⟨k, hk⟩ := List.getElem?_of_mem hq
          have hkl := (List.getElem?_eq_some_iff.1 hk).1
          have hbl := (List.getElem?_eq_some_iff.1 hbp).1
          simp at hbl
          rw [List.getElem?_append_right hge, show b - U.length = 0 by omega] at hbp
          simp at hbp
          subst hbp
          exact ⟨k, q, by omega, by rw [List.getElem?_append_left hkl]; exact hk, by simp only; omega⟩
      · rw [hto]
        rcases Int.le_total c.to (e.pos + e.del) with hm | hm
        · exact ⟨(s, e), by simp, by simp only; omega⟩
        · exact ⟨q, by simp [hq], by omega⟩
/-- a cluster -/
def clu (d : Bool) (e : Ed) (r : List (Bool × Ed)) : List (Bool × Ed) := (d, e) :: tak ((Cl.zero e.pos).take d e) r
theorem clu_chn (d : Bool) (e : Ed) (r : List (Bool × Ed)) (h : 0 ≤ e.pos) (h' : 0 ≤ e.del) : Chn (clu d e r) := by
  have := tak_chn r ((Cl.zero e.pos).take d e) [(d, e)] (Chn.one _) ⟨(d, e), by simp, by rw [take_first d e h h']; exact Int.le_refl _⟩
  exact this
section
variable {n : Nat} {E : Nat → Bool × Ed} {T : List (Bool × Ed)}
theorem path_back (hc : Chn T) (hs : Srt T) (hd : ∀ p ∈ T, 0 ≤ p.2.del) (hi : ∀ p ∈ T, ∃ i, i < n ∧ E i = p) : ∀ (b a : Nat) (i j : Nat), a < b → i < n → j < n → T[a]? = some (E i) → T[b]? = some (E j) →
    Rch n (fun x y => meetE (E x).2 (E y).2) (b - a + 1) i j := by
  intro b
  induction b using Nat.strongRecOn with
  | ind b ih =>
    intro a i j hab hin hjn ha hb
    obtain ⟨c, q, hcb, hq, hle⟩ := hc b (E j) (by omega) hb
    obtain ⟨k, hk, rfl⟩ := hi q (List.mem_of_getElem? hq)
    have srt : ∀ (x y : Nat) p p', x < y → T[x]? = some p → T[y]? = some p' → p.2.pos ≤ p'.2.pos := by
      intro x y p p' hxy hx hy
      obtain ⟨hx1, hx2⟩ := List.getElem?_eq_some_iff.1 hx
      obtain ⟨hy1, hy2⟩ := List.getElem?_eq_some_iff.1 hy
      have := List.pairwise_iff_getElem.1 hs x y hx1 hy1 hxy
      rwa [hx2, hy2] at this
    have dk := hd _ (List.mem_of_getElem? hq)
    have dj := hd _ (List.mem_of_getElem? hb)
    have di := hd _ (List.mem_of_getElem? ha)
    have s1 := srt c b _ _ hcb hq hb
    have s2 := srt a b _ _ hab ha hb
    have hm : meetE (E j).2 (E k).2 = true := meetE_iff.2 ⟨hle, by omega⟩
    rcases Nat.lt_trichotomy c a with h | h | h
    · have s3 := srt c a _ _ h hq ha
      have hm2 : meetE (E k).2 (E i).2 = true := meetE_iff.2 ⟨by omega, by omega⟩
      exact Rch.le (t := 2) (.inr ⟨k, hk, hm, Rch.one hin hm2⟩) (by omega)
    · subst h
      rw [hq] at ha
      have hki : E k = E i := Option.some.inj ha
      rw [hki] at hm
      exact (Rch.one hin hm).le (by omega)
    · have := ih c hcb a i k h hin hk ha hq
      exact Rch.le (t := c - a + 1 + 1) (.inr ⟨k, hk, hm, this⟩) (by omega)
theorem path_all (hc : Chn T) (hs : Srt T) (hd : ∀ p ∈ T, 0 ≤ p.2.del) (hi : ∀ p ∈ T, ∃ i, i < n ∧ E i = p) (hl : T.length ≤ n) {i j : Nat} (hin : i < n) (hjn : j < n) (h1 : E i ∈ T) (h2 : E j ∈ T) :
    Rch n (fun x y => meetE (E x).2 (E y).2) n j i := by
  obtain ⟨a, ha⟩ := List.getElem?_of_mem h1
  obtain ⟨b, hb⟩ := List.getElem?_of_mem h2
  have la := (List.getElem?_eq_some_iff.1 ha).1
  have lb := (List.getElem?_eq_some_iff.1 hb).1
  rcases Nat.lt_trichotomy a b with h | h | h
  · exact ((path_back hc hs hd hi b a i j h hin hjn ha hb).symm (fun _ _ => meetE_comm _ _) hjn hin).le (by omega)
  · subst h
    rw [ha] at hb
    have e : E i = E j := Option.some.inj hb
    have := hd _ h2
    refine (Rch.one hjn ?_).le (by omega)
    show meetE (E i).2 (E j).2 = true
    rw [e]
    exact meetE_iff.2 ⟨by omega, by omega⟩
  · exact (path_back hc hs hd hi a b j i h hjn hin hb ha).le (by omega)
end
end Go.Proofs.Ytofccahgmkifjaa.Al
namespace Go.Proofs.Ytofccahgmkifjaa.Al
open Go.Proofs.Ytofccahgmkifjaa.Df

/-- the edits of both sides, by their places in one list -/
def el (F G : List Ed) (i : Nat) : Bool × Ed := if i < F.length then (false, F.getD i ⟨0, 0, []⟩) else (true, G.getD (i - F.length) ⟨0, 0, []⟩)
theorem el_left {F G : List Ed} {i : Nat} (h : i < F.length) : el F G i = (false, F.getD i ⟨0, 0, []⟩) := if_pos h
theorem el_right {F G : List Ed} {i : Nat} (h : ¬ i < F.length) : el F G i = (true, G.getD (i - F.length) ⟨0, 0, []⟩) := if_neg h
theorem getD_memE {l : List Ed} {i : Nat} (h : i < l.length) : l.getD i ⟨0, 0, []⟩ ∈ l := by simp [List.getElem?_eq_getElem h]
theorem mem_both {F G : List Ed} {p : Bool × Ed} : p ∈ mrg F G ↔ (p.1 = false ∧ p.2 ∈ F) ∨ (p.1 = true ∧ p.2 ∈ G) := by
  obtain ⟨h0, h1⟩ := ofS_mrg _ F G (Nat.le_refl _)
  obtain ⟨s, e⟩ := p
  cases s
  · rw [← mem_ofS, h0]; simp
  · rw [← mem_ofS, h1]; simp
theorem el_mem {F G : List Ed} {i : Nat} (h : i < F.length + G.length) : el F G i ∈ mrg F G := by
  by_cases hi : i < F.length
  · rw [el_left hi]; exact mem_both.2 (.inl ⟨rfl, getD_memE hi⟩)
  · rw [el_right hi]; exact mem_both.2 (.inr ⟨rfl, getD_memE (by omega)⟩)
theorem mem_at {l : List Ed} {e : Ed} (h : e ∈ l) : ∃ i, i < l.length ∧ l.getD i ⟨0, 0, []⟩ = e := by
  obtain ⟨i, hi⟩ := List.getElem?_of_mem h
  exact ⟨i, (List.getElem?_eq_some_iff.1 hi).1, by rw [List.getD_eq_getElem?_getD, hi]; rfl⟩
theorem el_ex {F G : List Ed} {p : Bool × Ed} (h : p ∈ mrg F G) : ∃ i, i < F.length + G.length ∧ el F G i = p := by
  obtain ⟨s, e⟩ := p
  rcases mem_both.1 h with ⟨h1, h2⟩ | ⟨h1, h2⟩
  · obtain ⟨i, hi, he⟩ := mem_at h2
    simp only at h1 he
    exact ⟨i, by omega, by rw [el_left hi, he, h1]⟩
  · obtain ⟨i, hi, he⟩ := mem_at h2
    simp only at h1 he
    refine ⟨F.length + i, by omega, ?_⟩
    rw [el_right (by omega), Nat.add_sub_cancel_left, he, h1]
theorem range_els (F G : List Ed) : (List.range (F.length + G.length)).map (el F G) = F.map (fun e => (false, e)) ++ G.map (fun e => (true, e)) := by
  apply List.ext_getElem?
  intro i
  rcases Nat.lt_or_ge i (F.length + G.length) with h | h
  · rw [List.getElem?_map, List.getElem?_range h]
    by_cases hi : i < F.length
    · rw [List.getElem?_append_left (by simpa using hi), List.getElem?_map, List.getElem?_eq_getElem hi]
      simp [el_left hi, List.getElem?_eq_getElem hi]
    · rw [List.getElem?_append_right (by simp; omega), List.getElem?_map, List.length_map, List.getElem?_eq_getElem (show i - F.length < G.length by omega)]
      simp [el_right hi, List.getElem?_eq_getElem (show i - F.length < G.length by omega)]
  · rw [List.getElem?_eq_none (by simpa using h), List.getElem?_eq_none (by simpa using h)]

/-- what holds where a cluster begins, of those gone through too -/
structure RInv (o a b : Ls) (V : List (Bool × Ed)) (s : St) (l : List (Bool × Ed)) : Prop where
  inv : Inv o a b s l
  all : mrg (D o a) (D o b) = V ++ l
  old : ∀ p ∈ V, p.2.pos + p.2.del ≤ s.x
  new : V ≠ [] → ∀ p ∈ l, s.x < p.2.pos
theorem RInv.start (o a b : Ls) : RInv o a b [] ⟨0, 0, 0, []⟩ (mrg (D o a) (D o b)) :=
  ⟨start_inv o a b, rfl, (fun p h => by cases h), fun h => absurd rfl h⟩
/-- a cluster, taken -/
def clo (d : Bool) (e : Ed) (r : List (Bool × Ed)) : Cl := (grow ((Cl.zero e.pos).take d e) r).1
def clr (d : Bool) (e : Ed) (r : List (Bool × Ed)) : List (Bool × Ed) := (grow ((Cl.zero e.pos).take d e) r).2
theorem clu_all (d : Bool) (e : Ed) (r : List (Bool × Ed)) : clu d e r ++ clr d e r = (d, e) :: r := by
  rw [clu, clr, List.cons_append, tak_grow]
section
variable {o a b : Ls} {V : List (Bool × Ed)} {s : St} {d : Bool} {e : Ed} {r : List (Bool × Ed)}
theorem RInv.low (h : RInv o a b V s r) : ∀ p ∈ r, s.x ≤ p.2.pos ∧ 0 ≤ p.2.pos ∧ 0 ≤ p.2.del ∧ p.2.pos + p.2.del ≤ o.length ∧ p.2.ins.length ≤ a.length + b.length := by
  obtain ⟨last, hl1, hl2, hr0, hr1⟩ := h.inv.last
  obtain ⟨X, Y, Z, hx, hy, hz, hX, hY, hZ, ha, hb⟩ := h.inv.at_
  have hin : ∀ (c : Ls) (k : Nat) (l : List Ed), (play o k l).length ≤ c.length → ∀ f ∈ l, f.ins.length ≤ c.length := by
    intro c k l
    induction l generalizing k with
    | nil => intro _ f hf; cases hf
    | cons g l ih =>
      intro hp f hf
      rw [play] at hp
      simp only [List.length_append] at hp
      rcases List.mem_cons.1 hf with rfl | hf
      · omega
      · exact ih (g.pos.toNat + g.del.toNat) (by omega) f hf
  rintro ⟨q, f⟩ hp
  cases q
  · have h1 := right_low hr0 hl1 f (mem_ofS.2 hp)
    have h2 := hin a X (ofS false r) (by rw [← ha, List.length_drop]; omega) f (mem_ofS.2 hp)
    simp only
    omega
  · have h1 := right_low hr1 hl1 f (mem_ofS.2 hp)
    have h2 := hin b X (ofS true r) (by rw [← hb, List.length_drop]; omega) f (mem_ofS.2 hp)
    simp only
    omega
theorem clo_to (h0 : 0 ≤ e.pos) (h1 : 0 ≤ e.del) : (clo d e r).fr = e.pos ∧ (∀ p ∈ clu d e r, p.2.pos + p.2.del ≤ (clo d e r).to) ∧ ∀ u : Int, (∀ p ∈ clu d e r, p.2.pos + p.2.del ≤ u) → (clo d e r).to ≤ u := by
  have tf := take_first d e h0 h1
  have hg := grow_is ((Cl.zero e.pos).take d e) r
  unfold clo clu
  rw [hg, tf]
  simp only
  rw [← tf]
  refine ⟨trivial, fun p hp => ?_, fun u hu => ?_⟩
  · rcases List.mem_cons.1 hp with rfl | hp
    · exact ends_ge _ _
    · exact ends_mem _ _ p hp
  · exact ends_le _ _ _ (hu (d, e) (by simp)) fun p hp => hu p (by simp [hp])
theorem RInv.rest (h : RInv o a b V s ((d, e) :: r)) : ∀ p ∈ clr d e r, (clo d e r).to < p.2.pos :=
  grow_rest _ r (List.pairwise_cons.1 h.inv.srt).2
/-- the region's state behind a cluster -/
def nxt (a b : Ls) (s : St) (d : Bool) (e : Ed) (r : List (Bool × Ed)) : St := (s.keep a b (clo d e r).fr).add a b (clo d e r)
theorem keep_x (a b : Ls) (s : St) (t : Int) (h : s.x ≤ t) : (s.keep a b t).x = t := by
  unfold St.keep
  split
  · show s.x + (t - s.x) = t; omega
  · omega
theorem RInv.next_x (h : RInv o a b V s ((d, e) :: r)) : (nxt a b s d e r).x = (clo d e r).to := by
  have hl := h.low (d, e) (by simp)
  have hf := (clo_to (d := d) (e := e) (r := r) hl.2.1 hl.2.2.1).1
  show (s.keep a b (clo d e r).fr).x + ((clo d e r).to - (clo d e r).fr) = _
  rw [keep_x a b s _ (by rw [hf]; exact hl.1)]
  omega
theorem RInv.next (h : RInv o a b V s ((d, e) :: r)) : RInv o a b (V ++ clu d e r) (nxt a b s d e r) (clr d e r) := by
  have hl := h.low (d, e) (by simp)
  obtain ⟨hf, hm, _⟩ := clo_to (d := d) (e := e) (r := r) hl.2.1 hl.2.2.1
  refine ⟨step_ok h.inv, by rw [h.all, List.append_assoc, clu_all], fun p hp => ?_, fun _ p hp => ?_⟩
  · rw [h.next_x]
    rcases List.mem_append.1 hp with hp | hp
    · have h1 := h.old p hp
      have h2 := hm (d, e) (by simp [clu])
      simp only at h2 hl
      omega
    · exact hm p hp
  · rw [h.next_x]; exact h.rest p hp
theorem RInv.mem (_h : RInv o a b V s ((d, e) :: r)) {p : Bool × Ed} (hp : p ∈ clu d e r) : p ∈ (d, e) :: r := by rw [← clu_all d e r]; exact List.mem_append_left _ hp
theorem RInv.closed (h : RInv o a b V s ((d, e) :: r)) {p q : Bool × Ed} (hp : p ∈ clu d e r) (hq : q ∈ mrg (D o a) (D o b)) (hm : meetE p.2 q.2 = true) : q ∈ clu d e r := by
  obtain ⟨m1, m2⟩ := meetE_iff.1 hm
  have hl := h.low (d, e) (by simp)
  obtain ⟨hf, hto, _⟩ := clo_to (d := d) (e := e) (r := r) hl.2.1 hl.2.2.1
  rw [h.all, ← clu_all d e r] at hq
  rcases List.mem_append.1 hq with hq | hq
  · exfalso
    have h1 := h.old q hq
    have h2 := h.new (fun e => by rw [e] at hq; cases hq) p (h.mem hp)
    omega
  · rcases List.mem_append.1 hq with hq | hq
    · exact hq
    · exfalso
      have h1 := h.rest q hq
      have h2 := hto p hp
      omega
theorem RInv.self (h : RInv o a b V s ((d, e) :: r)) {p : Bool × Ed} (hp : p ∈ clu d e r) : meetE p.2 p.2 = true := by
  have := h.low p (h.mem hp)
  exact meetE_iff.2 ⟨by omega, by omega⟩
/-- those of another part aren't of the cluster -/
theorem RInv.apart (h : RInv o a b V s ((d, e) :: r)) {p : Bool × Ed} (hp : p ∈ V ∨ p ∈ clr d e r) : p ∉ clu d e r := by
  intro hc
  have hl := h.low (d, e) (by simp)
  obtain ⟨hf, hto, _⟩ := clo_to (d := d) (e := e) (r := r) hl.2.1 hl.2.2.1
  have h0 := h.low p (h.mem hc)
  rcases hp with hp | hp
  · have h1 := h.old p hp
    have h2 := h.new (fun e => by rw [e] at hp; cases hp) p (h.mem hc)
    omega
  · have h1 := h.rest p hp
    have h2 := hto p hc
    omega
/-- by the marks -/
theorem RInv.marks (h : RInv o a b V s ((d, e) :: r)) {n : Nat} {L : List Int} (hn : n = (D o a).length + (D o b).length) (hL : Mk n (fun x y => meetE (el (D o a) (D o b) x).2 (el (D o a) (D o b) y).2) n 0 0 L)
    {i j : Nat} (hi : i < n) (hj : j < n) (hCi : el (D o a) (D o b) i ∈ clu d e r) : L.getD j 0 = L.getD i 0 ↔ el (D o a) (D o b) j ∈ clu d e r := by
  have hl := h.low (d, e) (by simp)
  have hsub : ∀ p ∈ clu d e r, p ∈ mrg (D o a) (D o b) := fun p hp => by rw [h.all]; exact List.mem_append_right _ (h.mem hp)
  refine hL.same (fun _ _ => meetE_comm _ _) (fun i => el (D o a) (D o b) i ∈ clu d e r) (fun x y hx hy hxC hm => h.closed hxC (el_mem (by omega)) hm) (fun x y hx hy hx' hy' => ?_) hi hj hCi
  refine path_all (clu_chn d e r hl.2.1 hl.2.2.1) ?_ (fun p hp => (h.low p (h.mem hp)).2.2.1) (fun p hp => by
    obtain ⟨k, hk, he⟩ := el_ex (hsub p hp)
    exact ⟨k, by omega, he⟩) ?_ hx hy hx' hy'
  · have := h.inv.srt
    rw [← clu_all d e r] at this
    exact (List.pairwise_append.1 this).1
  · have h1 := mrg_len _ (D o a) (D o b) (Nat.le_refl _)
    rw [h.all, ← clu_all d e r] at h1
    simp only [List.length_append] at h1
    omega
end
end Go.Proofs.Ytofccahgmkifjaa.Al
namespace Go.Proofs.Ytofccahgmkifjaa.Al
open Go.Proofs.Ytofccahgmkifjaa.Df

def mF (E : List Ed) : List (Bool × Ed) := E.map fun e => (false, e)
def mT (E : List Ed) : List (Bool × Ed) := E.map fun e => (true, e)
/-- each edit on both sides -/
def dbl : List Ed → List (Bool × Ed)
  | [] => []
  | e :: E => (false, e) :: (true, e) :: dbl E
theorem mrg_left : ∀ E : List Ed, mrg E [] = mF E
  | [] => by rw [mrg]; rfl
  | e :: E => by rw [mrg, mrg_left E]; rfl
theorem mrg_right (E : List Ed) : mrg [] E = mT E := by rw [mrg]; rfl
theorem mrg_self {n : Nat} : ∀ {E : List Ed} {last : Int}, right n last E = true → -1 ≤ last → mrg E E = dbl E
  | [], _, _, _ => by rw [mrg]; rfl
  | e :: E, last, h, hl => by
    obtain ⟨p, d, ep, ed, _, _, _, hr'⟩ := right_head h hl
    have ih := mrg_self hr' (by omega)
    rw [mrg, if_pos (Int.le_refl _), dbl]
    congr 1
    cases E with
    | nil => rw [mrg]; rfl
    | cons f E =>
      have := right_low hr' (by omega) f (by simp)
      rw [mrg, if_neg (by omega), ih]
/-- a region of the one side's, the other side's, and both sides' -/
def Kd3 (r q s : Rg) : Prop := (r.kind = 0 ∧ q.kind = 0 ∧ s.kind = 0) ∨ (r.kind = 1 ∧ q.kind = 2 ∧ s.kind = 3)
def Kin : List Rg → List Rg → List Rg → Prop
  | [], [], [] => True
  | r :: l, q :: m, s :: n => Kd3 r q s ∧ Kin l m n
  | _, _, _ => False
theorem Kin.snoc : ∀ {l m n : List Rg} {r q s : Rg}, Kin l m n → Kd3 r q s → Kin (l ++ [r]) (m ++ [q]) (n ++ [s])
  | [], [], [], _, _, _, _, h => ⟨h, trivial⟩
  | _ :: _, _ :: _, _ :: _, _, _, _, h, h' => ⟨h.1, Kin.snoc h.2 h'⟩
  | [], _ :: _, _, _, _, _, h, _ => by cases h
  | [], [], _ :: _, _, _, _, h, _ => by cases h
  | _ :: _, [], _, _, _, _, h, _ => by cases h
  | _ :: _, _ :: _, [], _, _, _, h, _ => by cases h
theorem Kin.len : ∀ {l m n : List Rg}, Kin l m n → m.length = l.length ∧ n.length = l.length
  | [], [], [], _ => ⟨rfl, rfl⟩
  | _ :: _, _ :: _, _ :: _, h => by
    have := Kin.len h.2
    simp only [List.length_cons]
    omega
  | [], _ :: _, _, h => by cases h
  | [], [], _ :: _, h => by cases h
  | _ :: _, [], _, h => by cases h
  | _ :: _, _ :: _, [], h => by cases h
theorem Kin.at : ∀ {l m n : List Rg} {k : Nat} {r q s : Rg}, Kin l m n → l[k]? = some r → m[k]? = some q → n[k]? = some s → Kd3 r q s
  | [], _, _, _, _, _, _, _, h, _, _ => by simp at h
  | _ :: _, _ :: _, _ :: _, 0, _, _, _, h, h1, h2, h3 => by
    simp at h1 h2 h3
    subst h1 h2 h3
    exact h.1
  | _ :: _, _ :: _, _ :: _, k + 1, _, _, _, h, h1, h2, h3 => Kin.at h.2 (by simpa using h1) (by simpa using h2) (by simpa using h3)
  | _ :: _, [], _, _, _, _, _, h, _, _, _ => by cases h
  | _ :: _, _ :: _, [], _, _, _, _, h, _, _, _ => by cases h
/-- clusters that go side by side -/
structure C3 (c d e : Cl) : Prop where
  fr : d.fr = c.fr ∧ e.fr = c.fr
  to : d.to = c.to ∧ e.to = c.to
  z : c.n1 = 0 ∧ d.n0 = 0
  p : 0 < c.n0 ∧ 0 < d.n1 ∧ 0 < e.n0 ∧ 0 < e.n1
  m : e.m0 = e.m1
theorem C3.take {c d e : Cl} (h : C3 c d e) (f : Ed) : C3 (c.take false f) (d.take true f) ((e.take false f).take true f) := by
  obtain ⟨⟨h1, h2⟩, ⟨h3, h4⟩, ⟨h5, h6⟩, ⟨h7, h8, h9, h10⟩, h11⟩ := h
  refine ⟨⟨h1, h2⟩, ⟨?_, ?_⟩, ⟨h5, h6⟩, ⟨?_, ?_, ?_, ?_⟩, ?_⟩ <;> simp only [Cl.take, Bool.false_eq_true, if_false, if_true] <;> omega
theorem grow_sim : ∀ (E : List Ed) (c d e : Cl), C3 c d e → ∃ c' d' e' E', grow c (mF E) = (c', mF E') ∧ grow d (mT E) = (d', mT E') ∧ grow e (dbl E) = (e', dbl E') ∧ C3 c' d' e' ∧ E' <:+ E
  | [], c, d, e, h => ⟨c, d, e, [], rfl, rfl, rfl, h, List.suffix_refl _⟩
  | f :: E, c, d, e, h => by
    by_cases hlt : c.to < f.pos
    · refine ⟨c, d, e, f :: E, ?_, ?_, ?_, h, List.suffix_refl _⟩
      · show grow c ((false, f) :: mF E) = _
        rw [grow, if_pos hlt]; rfl
      · show grow d ((true, f) :: mT E) = _
        rw [grow, if_pos (by rw [h.to.1]; exact hlt)]; rfl
      · rw [dbl, grow, if_pos (by rw [h.to.2]; exact hlt)]
    · obtain ⟨c', d', e', E', g1, g2, g3, g4, g5⟩ := grow_sim E _ _ _ (h.take f)
      refine ⟨c', d', e', E', ?_, ?_, ?_, g4, g5.trans (List.suffix_cons _ _)⟩
      · show grow c ((false, f) :: mF E) = _
        rw [grow, if_neg hlt]; exact g1
      · show grow d ((true, f) :: mT E) = _
        rw [grow, if_neg (by rw [h.to.1]; exact hlt)]; exact g2
      · rw [dbl, grow, if_neg (by rw [h.to.2]; exact hlt), grow, if_neg ?_]
        · exact g3
        · simp only [Cl.take, Bool.false_eq_true, if_false]
          have := h.to.2
          omega
/-- states that go side by side -/
structure S3 (s t u : St) : Prop where
  x : t.x = s.x ∧ u.x = s.x
  y : u.y = u.z
  l : Kin s.l t.l u.l
section
variable {o a : Ls} {s t u : St}
theorem S3.add {c d e : Cl} (h : S3 s t u) (hc : C3 c d e) : S3 (s.add a o c) (t.add o a d) (u.add a a e) := by
  refine ⟨⟨?_, ?_⟩, ?_, ?_⟩
  · show t.x + (d.to - d.fr) = s.x + (c.to - c.fr)
    rw [h.x.1, hc.to.1, hc.fr.1]
  · show u.x + (e.to - e.fr) = s.x + (c.to - c.fr)
    rw [h.x.2, hc.to.2, hc.fr.2]
  · show u.y + (e.to - e.fr + e.m0) = u.z + (e.to - e.fr + e.m1)
    rw [h.y, hc.m]
  · refine h.l.snoc (.inr ⟨?_, ?_, ?_⟩)
    · simp only [kindOf]
      rw [if_neg (by have := hc.p.1; omega), if_pos hc.z.1]
    · simp only [kindOf]
      rw [if_neg (by have := hc.p.2.1; omega), if_neg (by have := hc.p.2.1; omega), if_pos hc.z.2]
    · simp only [kindOf]
      rw [if_neg (by have := hc.p.2.2; omega), if_neg (by have := hc.p.2.2; omega), if_neg (by have := hc.p.2.2; omega), if_pos (by rw [h.y, hc.m])]
theorem S3.keep (h : S3 s t u) (n : Int) : S3 (s.keep a o n) (t.keep o a n) (u.keep a a n) := by
  unfold St.keep
  by_cases hlt : s.x < n
  · rw [if_pos hlt, if_pos (by rw [h.x.1]; exact hlt), if_pos (by rw [h.x.2]; exact hlt)]
    refine ⟨⟨?_, ?_⟩, ?_, h.l.snoc (.inl ⟨rfl, rfl, rfl⟩)⟩
    · show t.x + (n - t.x) = s.x + (n - s.x); omega
    · show u.x + (n - u.x) = s.x + (n - s.x); omega
    · show u.y + (n - u.x + 0) = u.z + (n - u.x + 0)
      rw [h.y]
  · rw [if_neg hlt, if_neg (by rw [h.x.1]; exact hlt), if_neg (by rw [h.x.2]; exact hlt)]
    exact h
end
theorem loop_sim {o a : Ls} : ∀ (n : Nat) (E : List Ed) (s t u : St), E.length ≤ n → (∀ e ∈ E, 0 ≤ e.del) → S3 s t u → S3 (loop a o s (mF E)) (loop o a t (mT E)) (loop a a u (dbl E))
  | _, [], s, t, u, _, _, h => by
    show S3 (loop a o s []) (loop o a t []) (loop a a u [])
    rw [loop_nil, loop_nil, loop_nil]
    exact h
  | 0, _ :: _, _, _, _, h, _, _ => by simp at h
  | n + 1, f :: E, s, t, u, hn, hd, h => by
    have hf := hd f (by simp)
    have h0 : C3 ((Cl.zero f.pos).take false f) ((Cl.zero f.pos).take true f) (((Cl.zero f.pos).take false f).take true f) := by
      refine ⟨⟨rfl, rfl⟩, ⟨rfl, ?_⟩, ⟨rfl, rfl⟩, ⟨?_, ?_, ?_, ?_⟩, ?_⟩ <;> simp only [Cl.take, Cl.zero, Bool.false_eq_true, if_false, if_true] <;> omega
    obtain ⟨c', d', e', E', g1, g2, g3, g4, g5⟩ := grow_sim E _ _ _ h0
    have hlen : E'.length ≤ n := Nat.le_trans (List.IsSuffix.length_le g5) (by simp at hn; omega)
    have g3' : grow ((Cl.zero f.pos).take false f) ((true, f) :: dbl E) = (e', dbl E') := by
      rw [grow, if_neg ?_]
      · exact g3
      · simp only [Cl.take, Cl.zero, Bool.false_eq_true, if_false]
        omega
    show S3 (loop a o s ((false, f) :: mF E)) (loop o a t ((true, f) :: mT E)) (loop a a u ((false, f) :: (true, f) :: dbl E))
    rw [loop_cons, loop_cons, loop_cons, g1, g2, g3']
    simp only
    refine loop_sim n E' _ _ _ hlen (fun e he => hd e (by simp [List.IsSuffix.subset g5 he])) ?_
    rw [g4.fr.1, g4.fr.2]
    exact (h.keep _).add g4
/-- P8.1: of one side's changes, or of changes that are alike, nothing clashes -/
theorem regs_one (o a : Ls) : Kin (regs o a o) (regs o o a) (regs o a a) := by
  have hr := D_right o a
  have hs := loop_sim (o := o) (a := a) _ (D o a) ⟨0, 0, 0, []⟩ ⟨0, 0, 0, []⟩ ⟨0, 0, 0, []⟩ (Nat.le_refl _) (fun e he => (right_low hr (by omega) e he).2.1) ⟨⟨rfl, rfl⟩, rfl, trivial⟩
  unfold regs
  rw [D_self, mrg_left, mrg_right, mrg_self hr (by omega)]
  exact (hs.keep _).l
theorem regs_same (o a : Ls) (h : o = a) : (regs o a o).length ≤ 1 := by
  subst h
  unfold regs
  rw [D_self, mrg_nil, loop_nil]
  unfold St.keep
  split
  · simp [St.add]
  · simp
end Go.Proofs.Ytofccahgmkifjaa.Al
namespace Go.Proofs.Ytofccahgmkifjaa.Al
open Go.Proofs.Ytofccahgmkifjaa.Df

theorem far_last {o a b : Ls} : ∀ {l : List Rg} {x y z x' y' z' : Int} {r : Rg}, Far o a b x y z (l ++ [r]) x' y' z' → 0 ≤ r.on ∧ 0 ≤ r.an ∧ 0 ≤ r.bn
  | [], _, _, _, _, _, _, _, h => by
    have h1 := h.1
    unfold chk at h1
    rw [Bool.and_eq_true, Bool.and_eq_true, Bool.and_eq_true, fol_yes, fol_yes, fol_yes] at h1
    exact ⟨h1.1.1.1.2.1, h1.1.1.2.2.1, h1.1.2.2.1⟩
  | _ :: _, _, _, _, _, _, _, _, h => far_last h.2
/-- where the lines of a cluster, and those ahead of it, are -/
structure Szs (o a b : Ls) (s : St) (c : Cl) (X Y Z p t M1 M2 : Nat) : Prop where
  x : s.x = X
  y : s.y = Y
  z : s.z = Z
  fr : c.fr = p
  to : c.to = t
  Xp : X ≤ p
  pt : p ≤ t
  po : t ≤ o.length
  Ya : Y + (p - X) ≤ a.length
  Zb : Z + (p - X) ≤ b.length
  kx : (s.keep a b p).x = p
  ky : (s.keep a b p).y = (Y + (p - X) : Nat)
  kz : (s.keep a b p).z = (Z + (p - X) : Nat)
  m1 : ((t - p : Nat) : Int) + c.m0 = M1
  m2 : ((t - p : Nat) : Int) + c.m1 = M2
  Y1 : Y + (p - X) + M1 ≤ a.length
  Z1 : Z + (p - X) + M2 ≤ b.length
theorem RInv.szs {o a b : Ls} {V : List (Bool × Ed)} {s : St} {d : Bool} {e : Ed} {r : List (Bool × Ed)} (h : RInv o a b V s ((d, e) :: r)) : ∃ X Y Z p t M1 M2, Szs o a b s (clo d e r) X Y Z p t M1 M2 := by
  obtain ⟨X, Y, Z, hx, hy, hz, hX, hY, hZ, ha, hb⟩ := h.inv.at_
  have hl := h.low (d, e) (by simp)
  simp only at hl
  have hn := h.next
  obtain ⟨X2, Y2, Z2, hx2, hy2, hz2, hX2, hY2, hZ2, _, _⟩ := hn.inv.at_
  obtain ⟨hf, hto, _⟩ := clo_to (d := d) (e := e) (r := r) hl.2.1 hl.2.2.1
  have hto := hto (d, e) (by simp [clu])
  simp only at hto
  obtain ⟨p, hp⟩ := Int.eq_ofNat_of_zero_le (show 0 ≤ e.pos by omega)
  have hnx := h.next_x
  obtain ⟨t, ht⟩ := Int.eq_ofNat_of_zero_le (show 0 ≤ (clo d e r).to by omega)
  have hfar := far_last (l := (s.keep a b (clo d e r).fr).l) hn.inv.far
  simp only at hfar
  rw [hf, hp, ht] at hfar
  have hXp : X ≤ p := by omega
  have srt1 := (List.pairwise_cons.1 h.inv.srt).1
  have hpos : ∀ q ∈ (d, e) :: r, (p : Int) ≤ q.2.pos := by
    intro q hq
    rcases List.mem_cons.1 hq with h' | h'
    · subst h'; simp only; omega
    · have := srt1 _ h'; simp only at this ⊢; omega
  have hpo : p ≤ o.length := by omega
  have pa := congrArg List.length (ha.trans (play_keep o X p (ofS false ((d, e) :: r)) hXp hpo fun f hf => hpos _ (mem_ofS.1 hf)))
  have pb := congrArg List.length (hb.trans (play_keep o X p (ofS true ((d, e) :: r)) hXp hpo fun f hf => hpos _ (mem_ofS.1 hf)))
  rw [List.length_drop, List.length_append, List.length_take, List.length_drop] at pa pb
  have hk : (s.keep a b p).x = p ∧ (s.keep a b p).y = (Y + (p - X) : Nat) ∧ (s.keep a b p).z = (Z + (p - X) : Nat) := by
    unfold St.keep
    split
    · show s.x + (p - s.x) = _ ∧ s.y + (p - s.x + 0) = _ ∧ s.z + (p - s.x + 0) = _
      omega
    · rename_i hh
      have : X = p := by omega
      subst this
      omega
  have hy3 : (nxt a b s d e r).y = (s.keep a b (clo d e r).fr).y + ((clo d e r).to - (clo d e r).fr + (clo d e r).m0) := rfl
  have hz3 : (nxt a b s d e r).z = (s.keep a b (clo d e r).fr).z + ((clo d e r).to - (clo d e r).fr + (clo d e r).m1) := rfl
  rw [hy2, hf, hp, ht, hk.2.1] at hy3
  rw [hz2, hf, hp, ht, hk.2.2] at hz3
  obtain ⟨M1, hM1⟩ := Int.eq_ofNat_of_zero_le hfar.2.1
  obtain ⟨M2, hM2⟩ := Int.eq_ofNat_of_zero_le hfar.2.2
  rw [hM1] at hy3
  rw [hM2] at hz3
  exact ⟨X, Y, Z, p, t, M1, M2, hx, hy, hz, hf.trans hp, ht, hXp, by omega, by omega, by omega, by omega, hk.1, hk.2.1, hk.2.2, by omega, by omega, by omega, by omega⟩
end Go.Proofs.Ytofccahgmkifjaa.Al
namespace Go.Proofs.Ytofccahgmkifjaa.Al
open Go.Proofs.Ytofccahgmkifjaa.Df

/-- what a cluster has, by its edits -/
theorem clo_sums {d : Bool} {e : Ed} {r : List (Bool × Ed)} (h0 : 0 ≤ e.pos) (h1 : 0 ≤ e.del) :
    (clo d e r).n0 = (ofS false (clu d e r)).length ∧ (clo d e r).m0 = more (ofS false (clu d e r)) ∧ (clo d e r).n1 = (ofS true (clu d e r)).length ∧ (clo d e r).m1 = more (ofS true (clu d e r)) := by
  have tf := take_first d e h0 h1
  have hg := grow_is ((Cl.zero e.pos).take d e) r
  unfold clo clu
  rw [hg, tf]
  simp only
  rw [← tf]
  cases d
  · rw [ofS_same, ofS_other _ _ (by decide), more]
    simp
    omega
  · rw [ofS_same, ofS_other _ _ (by decide), more]
    simp
    omega
noncomputable def inC (T : List (Bool × Ed)) (p : Bool × Ed) : Bool := @decide (p ∈ T) (Classical.propDecidable _)
theorem inC_iff {T : List (Bool × Ed)} {p : Bool × Ed} : inC T p = true ↔ p ∈ T := by unfold inC; exact @decide_eq_true_iff _ (Classical.propDecidable _)
theorem filter_mid {α : Type} (f : α → Bool) (A B C : List α) (hA : ∀ x ∈ A, f x = false) (hB : ∀ x ∈ B, f x = true) (hC : ∀ x ∈ C, f x = false) : (A ++ B ++ C).filter f = B := by
  have h1 : A.filter f = [] := List.filter_eq_nil_iff.2 fun x hx => by simp [hA x hx]
  have h2 : C.filter f = [] := List.filter_eq_nil_iff.2 fun x hx => by simp [hC x hx]
  have h3 : B.filter f = B := List.filter_eq_self.2 hB
  rw [List.filter_append, List.filter_append, h1, h2, h3]
  simp
section
variable (φ : Nat → Ed) (C : Nat → Bool) (m : Nat)
def accE (p : Int) : Nat → Int
  | 0 => p
  | i + 1 => if C i then max (accE p i) ((φ i).pos + (φ i).del) else accE p i
def accA : Nat → Int
  | 0 => 0
  | i + 1 => if C i = true ∧ i < m then accA i + (φ i).ins.length - (φ i).del else accA i
def accB : Nat → Int
  | 0 => 0
  | i + 1 => if C i = true ∧ ¬ i < m then accB i + (φ i).ins.length - (φ i).del else accB i
def acc1 : Nat → Bool
  | 0 => false
  | i + 1 => if C i = true ∧ i < m then true else acc1 i
def acc2 : Nat → Bool
  | 0 => false
  | i + 1 => if C i = true ∧ ¬ i < m then true else acc2 i
end
section
variable {φ : Nat → Ed} {C : Nat → Bool} {m : Nat}
theorem accE_ge (p : Int) : ∀ n, p ≤ accE φ C p n
  | 0 => Int.le_refl _
  | n + 1 => by
    have := accE_ge p n
    rw [accE]
    split <;> omega
theorem accE_mem (p : Int) : ∀ n i, i < n → C i = true → (φ i).pos + (φ i).del ≤ accE φ C p n
  | 0, i, h, _ => absurd h (Nat.not_lt_zero _)
  | n + 1, i, h, hc => by
    rw [accE]
    rcases Nat.lt_or_ge i n with h' | h'
    · have := accE_mem p n i h' hc
      split <;> omega
    · obtain rfl : i = n := by omega
      rw [if_pos hc]; omega
theorem accE_le (p u : Int) (hp : p ≤ u) : ∀ n, (∀ i, i < n → C i = true → (φ i).pos + (φ i).del ≤ u) → accE φ C p n ≤ u
  | 0, _ => hp
  | n + 1, h => by
    have h1 := accE_le p u hp n fun i hi => h i (by omega)
    rw [accE]
    split
    · have := h n (by omega) (by assumption); omega
    · exact h1
theorem acc1_iff : ∀ n, acc1 C m n = true ↔ ∃ i, i < n ∧ C i = true ∧ i < m
  | 0 => by simp [acc1]
  | n + 1 => by
    rw [acc1]
    split
    · rename_i h
      exact ⟨fun _ => ⟨n, by omega, h.1, h.2⟩, fun _ => rfl⟩
    · rename_i h
      rw [acc1_iff n]
      constructor
      · rintro ⟨i, h1, h2⟩; exact ⟨i, by omega, h2⟩
      · rintro ⟨i, h1, h2, h3⟩
        rcases Nat.lt_or_ge i n with h' | h'
        · exact ⟨i, h', h2, h3⟩
        · obtain rfl : i = n := by omega
          exact absurd ⟨h2, h3⟩ h
theorem acc2_iff : ∀ n, acc2 C m n = true ↔ ∃ i, i < n ∧ C i = true ∧ ¬ i < m
  | 0 => by simp [acc2]
  | n + 1 => by
    rw [acc2]
    split
    · rename_i h
      exact ⟨fun _ => ⟨n, by omega, h.1, h.2⟩, fun _ => rfl⟩
    · rename_i h
      rw [acc2_iff n]
      constructor
      · rintro ⟨i, h1, h2⟩; exact ⟨i, by omega, h2⟩
      · rintro ⟨i, h1, h2, h3⟩
        rcases Nat.lt_or_ge i n with h' | h'
        · exact ⟨i, h', h2, h3⟩
        · obtain rfl : i = n := by omega
          exact absurd ⟨h2, h3⟩ h
end
theorem more_filter_take (F : List Ed) (f : Ed → Bool) (i : Nat) (h : i < F.length) : more ((F.take (i + 1)).filter f) = if f (F.getD i ⟨0, 0, []⟩) then more ((F.take i).filter f) + (F.getD i ⟨0, 0, []⟩).ins.length - (F.getD i ⟨0, 0, []⟩).del else more ((F.take i).filter f) := by
  have e : F.getD i ⟨0, 0, []⟩ = F[i] := by rw [List.getD_eq_getElem?_getD, List.getElem?_eq_getElem h]; rfl
  rw [List.take_succ_eq_append_getElem h, List.filter_append, more_append, e]
  by_cases hf : f F[i] = true
  · rw [if_pos hf, List.filter_cons_of_pos hf, List.filter_nil, more, more]; omega
  · rw [if_neg hf, List.filter_cons_of_neg hf, List.filter_nil, more]; omega
section
variable {o a b : Ls} {V : List (Bool × Ed)} {s : St} {d : Bool} {e : Ed} {r : List (Bool × Ed)} {φ : Nat → Ed} {C : Nat → Bool}
theorem RInv.filter (h : RInv o a b V s ((d, e) :: r)) (q : Bool) (F : List Ed) (hF : F = if q then D o b else D o a) : F.filter (fun x => inC (clu d e r) (q, x)) = ofS q (clu d e r) := by
  have hall : F = ofS q V ++ ofS q (clu d e r) ++ ofS q (clr d e r) := by
    rw [List.append_assoc, ← ofS_append, clu_all, ← ofS_append, ← h.all, hF]
    have := ofS_mrg _ (D o a) (D o b) (Nat.le_refl _)
    cases q
    · exact this.1.symm
    · exact this.2.symm
  rw [hall]
  refine filter_mid _ _ _ _ (fun x hx => ?_) (fun x hx => inC_iff.2 (mem_ofS.1 hx)) (fun x hx => ?_)
  · cases hh : inC (clu d e r) (q, x)
    · rfl
    · exact absurd (inC_iff.1 hh) (h.apart (.inl (mem_ofS.1 hx)))
  · cases hh : inC (clu d e r) (q, x)
    · rfl
    · exact absurd (inC_iff.1 hh) (h.apart (.inr (mem_ofS.1 hx)))
theorem RInv.accs (h : RInv o a b V s ((d, e) :: r)) (hC : ∀ i, i < (D o a).length + (D o b).length → (C i = true ↔ el (D o a) (D o b) i ∈ clu d e r))
    (hφ : ∀ i, i < (D o a).length + (D o b).length → C i = true → φ i = (el (D o a) (D o b) i).2) :
    accE φ C e.pos ((D o a).length + (D o b).length) = (clo d e r).to ∧ accA φ C (D o a).length ((D o a).length + (D o b).length) = (clo d e r).m0 ∧ accB φ C (D o a).length ((D o a).length + (D o b).length) = (clo d e r).m1 ∧
      (acc1 C (D o a).length ((D o a).length + (D o b).length) = true ↔ (clo d e r).n0 ≠ 0) ∧ (acc2 C (D o a).length ((D o a).length + (D o b).length) = true ↔ (clo d e r).n1 ≠ 0) := by
  have hl := h.low (d, e) (by simp)
  obtain ⟨c1, c2, c3, c4⟩ := clo_sums (d := d) (e := e) (r := r) hl.2.1 hl.2.2.1
  obtain ⟨hf, hto, hle⟩ := clo_to (d := d) (e := e) (r := r) hl.2.1 hl.2.2.1
  have hf0 := h.filter false (D o a) rfl
  have hf1 := h.filter true (D o b) rfl
  obtain ⟨F, hF⟩ : ∃ F, F = D o a := ⟨_, rfl⟩
  obtain ⟨G, hG⟩ : ∃ G, G = D o b := ⟨_, rfl⟩
  have hsub : ∀ p ∈ clu d e r, ∃ i, i < F.length + G.length ∧ el F G i = p := fun p hp => by
    rw [hF, hG]
    exact el_ex (by rw [h.all]; exact List.mem_append_right _ (h.mem hp))
  rw [← hF, ← hG] at hC hφ ⊢
  rw [← hF] at hf0
  rw [← hG] at hf1
  have hCe : ∀ i, i < F.length + G.length → C i = inC (clu d e r) (el F G i) := fun i hi => by rw [Bool.eq_iff_iff, hC i hi, inC_iff]
  refine ⟨Int.le_antisymm ?_ ?_, ?_, ?_, ?_, ?_⟩
  · refine accE_le _ _ ?_ _ fun i hi hc => ?_
    · have := hto (d, e) (by simp [clu])
      simp only at this hl
      omega
    · rw [hφ i hi hc]
      exact hto _ ((hC i hi).1 hc)
  · refine hle _ fun p hp => ?_
    obtain ⟨i, hi, rfl⟩ := hsub p hp
    have hc := (hC i hi).2 hp
    have := accE_mem (φ := φ) (C := C) e.pos _ i hi hc
    rwa [hφ i hi hc] at this
  · have key : ∀ i, i ≤ F.length → accA φ C F.length i = more ((F.take i).filter fun x => inC (clu d e r) (false, x)) := by
      intro i
      induction i with
      | zero => intro _; simp [accA, more]
      | succ i ih =>
        intro hi
        have hc := hCe i (by omega)
        rw [el_left (by omega)] at hc
        rw [accA, more_filter_take F _ i (by omega), ih (by omega), ← hc]
        by_cases hh : C i = true
        · have hp := hφ i (by omega) hh
          rw [el_left (by omega)] at hp
          rw [if_pos ⟨hh, by omega⟩, if_pos hh, hp]
        · rw [if_neg (fun x => hh x.1), if_neg hh]
    have stay : ∀ k, accA φ C F.length (F.length + k) = accA φ C F.length F.length := by
      intro k
      induction k with
      | zero => rfl
      | succ k ih =>
        rw [← Nat.add_assoc, accA, if_neg (fun x => by omega), ih]
    rw [stay, key _ (Nat.le_refl _), List.take_length, hf0, c2]
  · have zero : ∀ i, i ≤ F.length → accB φ C F.length i = 0 := by
      intro i
      induction i with
      | zero => intro _; rfl
      | succ i ih =>
        intro hi
        rw [accB, if_neg (fun x => x.2 (by omega)), ih (by omega)]
    have key : ∀ j, j ≤ G.length → accB φ C F.length (F.length + j) = more ((G.take j).filter fun x => inC (clu d e r) (true, x)) := by
      intro j
      induction j with
      | zero => intro _; rw [Nat.add_zero, zero _ (Nat.le_refl _)]; simp [more]
      | succ j ih =>
        intro hj
        have hc := hCe (F.length + j) (by omega)
        rw [el_right (by omega), Nat.add_sub_cancel_left] at hc
        rw [← Nat.add_assoc, accB, more_filter_take G _ j (by omega), ih (by omega), ← hc]
        by_cases hh : C (F.length + j) = true
        · have hp := hφ (F.length + j) (by omega) hh
          rw [el_right (by omega), Nat.add_sub_cancel_left] at hp
          rw [if_pos ⟨hh, by omega⟩, if_pos hh, hp]
        · rw [if_neg (fun x => hh x.1), if_neg hh]
    rw [key _ (Nat.le_refl _), List.take_length, hf1, c4]
  · rw [acc1_iff, c1]
    constructor
    · rintro ⟨i, hi, hc, hm⟩ h0
      have hmem := (hC i hi).1 hc
      rw [el_left hm] at hmem
      have := List.length_pos_of_mem (mem_ofS.2 hmem)
      omega
    · intro h0
      obtain ⟨x, hx⟩ := List.exists_mem_of_length_pos (l := ofS false (clu d e r)) (by omega)
      obtain ⟨i, hi, he⟩ := hsub _ (mem_ofS.1 hx)
      refine ⟨i, hi, (hC i hi).2 (by rw [he]; exact mem_ofS.1 hx), ?_⟩
      refine Classical.byContradiction fun hn => ?_
      rw [el_right hn] at he
      cases he
  · rw [acc2_iff, c3]
    constructor
    · rintro ⟨i, hi, hc, hm⟩ h0
      have hmem := (hC i hi).1 hc
      rw [el_right hm] at hmem
      have := List.length_pos_of_mem (mem_ofS.2 hmem)
      omega
    · intro h0
      obtain ⟨x, hx⟩ := List.exists_mem_of_length_pos (l := ofS true (clu d e r)) (by omega)
      obtain ⟨i, hi, he⟩ := hsub _ (mem_ofS.1 hx)
      refine ⟨i, hi, (hC i hi).2 (by rw [he]; exact mem_ofS.1 hx), fun hn => ?_⟩
      rw [el_left hn] at he
      cases he
end
/-- which edit is the first one of those that begin at a place, or behind it -/
def Fst (φ : Nat → Ed) (X N1 : Int) (k : Nat) (first from_ : Int) : Prop :=
  (first = -1 ∧ from_ = N1 ∧ ∀ j, j < k → ¬ (X ≤ (φ j).pos ∧ (φ j).pos < N1)) ∨
  (∃ f : Nat, f < k ∧ first = f ∧ from_ = (φ f).pos ∧ X ≤ (φ f).pos ∧ (φ f).pos < N1 ∧ ∀ j, j < k → X ≤ (φ j).pos → (φ f).pos ≤ (φ j).pos)
theorem Fst.zero (φ : Nat → Ed) (X N1 : Int) : Fst φ X N1 0 (-1) N1 := .inl ⟨rfl, rfl, fun _ h => absurd h (Nat.not_lt_zero _)⟩
theorem Fst.no {φ : Nat → Ed} {X N1 first from_ : Int} {k : Nat} (h : Fst φ X N1 k first from_) (hn : ¬ (X ≤ (φ k).pos ∧ (φ k).pos < from_)) : Fst φ X N1 (k + 1) first from_ := by
  rcases h with ⟨h1, h2, h3⟩ | ⟨f, h1, h2, h3, h4, h5, h6⟩
  · refine .inl ⟨h1, h2, fun j hj => ?_⟩
    rcases Nat.lt_or_ge j k with h | h
    · exact h3 j h
    · obtain rfl : j = k := by omega
      rw [← h2]; exact hn
  · refine .inr ⟨f, by omega, h2, h3, h4, h5, fun j hj hx => ?_⟩
    rcases Nat.lt_or_ge j k with h | h
    · exact h6 j h hx
    · obtain rfl : j = k := by omega
      rw [h3] at hn
      omega
theorem Fst.yes {φ : Nat → Ed} {X N1 first from_ : Int} {k : Nat} (h : Fst φ X N1 k first from_) (hy : X ≤ (φ k).pos ∧ (φ k).pos < from_) : Fst φ X N1 (k + 1) k (φ k).pos := by
  rcases h with ⟨h1, h2, h3⟩ | ⟨f, h1, h2, h3, h4, h5, h6⟩
  · refine .inr ⟨k, by omega, rfl, rfl, hy.1, by omega, fun j hj hx => ?_⟩
    rcases Nat.lt_or_ge j k with h | h
    · have := h3 j h; omega
    · obtain rfl : j = k := by omega
      exact Int.le_refl _
  · refine .inr ⟨k, by omega, rfl, rfl, hy.1, by omega, fun j hj hx => ?_⟩
    rcases Nat.lt_or_ge j k with h | h
    · have := h6 j h hx; omega
    · obtain rfl : j = k := by omega
      exact Int.le_refl _
end Go.Proofs.Ytofccahgmkifjaa.Al
namespace Go.Proofs.Ytofccahgmkifjaa.Al
open Go.Proofs.Ytofccahgmkifjaa.Df

/-- the same edits of two sides, with the sides changed -/
structure Sw (l m : List (Bool × Ed)) : Prop where
  l_ : Srt l
  m_ : Srt m
  f_ : ofS false m = ofS true l
  t_ : ofS true m = ofS false l
theorem Sw.symm {l m : List (Bool × Ed)} (h : Sw l m) : Sw m l := ⟨h.m_, h.l_, h.t_.symm, h.f_.symm⟩
theorem Sw.mem {l m : List (Bool × Ed)} (h : Sw l m) {p : Bool × Ed} (hp : p ∈ m) : (!p.1, p.2) ∈ l := by
  obtain ⟨s, e⟩ := p
  cases s
  · exact mem_ofS.1 (h.f_ ▸ mem_ofS.2 hp)
  · exact mem_ofS.1 (h.t_ ▸ mem_ofS.2 hp)
theorem grow_to_le : ∀ (c : Cl) (l : List (Bool × Ed)) (u : Int), c.to ≤ u → (∀ p ∈ l, p.2.pos ≤ u → p.2.pos + p.2.del ≤ u) → (grow c l).1.to ≤ u
  | _, [], _, h, _ => h
  | c, (s, e) :: r, u, h, hc => by
    rw [grow]
    split
    · exact h
    · have h1 := hc (s, e) (by simp) (by simp only; omega)
      refine grow_to_le _ r u ?_ fun p hp => hc p (by simp [hp])
      simp only at h1
      cases s <;> simp only [Cl.take, Bool.false_eq_true, if_false, if_true] <;> omega
theorem grow_ge (c : Cl) (l : List (Bool × Ed)) : c.to ≤ (grow c l).1.to := by
  rw [grow_is]
  exact ends_ge _ _
theorem tak_end (c : Cl) (l : List (Bool × Ed)) (p : Bool × Ed) (h : p ∈ tak c l) : p.2.pos + p.2.del ≤ (grow c l).1.to := by
  rw [grow_is]
  exact ends_mem _ _ p h
theorem grow_closed (c : Cl) (l : List (Bool × Ed)) (hs : Srt l) (p : Bool × Ed) (hp : p ∈ l) (hq : p.2.pos ≤ (grow c l).1.to) : p.2.pos + p.2.del ≤ (grow c l).1.to := by
  rw [← tak_grow c l] at hp
  rcases List.mem_append.1 hp with h | h
  · exact tak_end c l p h
  · have := grow_rest c l hs p h; omega
theorem Sw.to {l m : List (Bool × Ed)} (h : Sw l m) {c d : Cl} (hc : d.to = c.to) : (grow d m).1.to = (grow c l).1.to := by
  apply Int.le_antisymm
  · exact grow_to_le d m _ (by rw [hc]; exact grow_ge c l) fun p hp hq => grow_closed c l h.l_ (!p.1, p.2) (h.mem hp) hq
  · exact grow_to_le c l _ (by rw [← hc]; exact grow_ge d m) fun p hp hq => grow_closed d m h.m_ (!p.1, p.2) (h.symm.mem hp) hq
theorem tak_filter (c : Cl) (l : List (Bool × Ed)) (hs : Srt l) (hd : ∀ p ∈ l, 0 ≤ p.2.del) (t : Int) (ht : (grow c l).1.to = t) :
    tak c l = l.filter (fun p => decide (p.2.pos ≤ t)) ∧ (grow c l).2 = l.filter (fun p => !decide (p.2.pos ≤ t)) := by
  have e := tak_grow c l
  have hm : ∀ p ∈ tak c l, p ∈ l := fun p hp => by rw [← e]; exact List.mem_append_left _ hp
  have h1 : ∀ p ∈ tak c l, p.2.pos ≤ t := fun p hp => by have := tak_end c l p hp; have := hd p (hm p hp); omega
  have h2 : ∀ p ∈ (grow c l).2, ¬ p.2.pos ≤ t := fun p hp => by have := grow_rest c l hs p hp; omega
  have k : ∀ f : Bool × Ed → Bool, l.filter f = (tak c l).filter f ++ (grow c l).2.filter f := fun f => by rw [← List.filter_append, e]
  rw [k, k]
  constructor
  · rw [List.filter_eq_self.2 fun p hp => decide_eq_true (h1 p hp), List.filter_eq_nil_iff.2 fun p hp => by simp [h2 p hp], List.append_nil]
  · rw [List.filter_eq_nil_iff.2 fun p hp => by simp [h1 p hp], List.filter_eq_self.2 fun p hp => by simp [h2 p hp], List.nil_append]
theorem ofS_filter (q : Bool) (g : Ed → Bool) : ∀ l : List (Bool × Ed), ofS q (l.filter fun p => g p.2) = (ofS q l).filter g
  | [] => rfl
  | (s, e) :: r => by
    have ih := ofS_filter q g r
    rw [List.filter_cons]
    by_cases hs : s = q
    · subst hs
      rw [ofS_same, List.filter_cons]
      by_cases hg : g e = true
      · rw [if_pos hg, if_pos hg, ofS_same, ih]
      · rw [if_neg hg, if_neg hg, ih]
    · rw [ofS_other _ _ hs]
      by_cases hg : g e = true
      · rw [if_pos hg, ofS_other _ _ hs, ih]
      · rw [if_neg hg, ih]
def Cl.sw (c : Cl) : Cl := ⟨c.fr, c.to, c.n1, c.m1, c.n0, c.m0⟩
theorem Sw.grow {l m : List (Bool × Ed)} (h : Sw l m) (hd : ∀ p ∈ l, 0 ≤ p.2.del) (c : Cl) : (Al.grow c.sw m).1 = (Al.grow c l).1.sw ∧ Sw (Al.grow c l).2 (Al.grow c.sw m).2 := by
  have ht := h.to (c := c) (d := c.sw) rfl
  obtain ⟨t, et⟩ : ∃ t, (Al.grow c l).1.to = t := ⟨_, rfl⟩
  rw [et] at ht
  have hd' : ∀ p ∈ m, 0 ≤ p.2.del := fun p hp => hd (!p.1, p.2) (h.mem hp)
  obtain ⟨a1, a2⟩ := tak_filter c l h.l_ hd t et
  obtain ⟨b1, b2⟩ := tak_filter c.sw m h.m_ hd' t ht
  have e0 : ofS false (tak c.sw m) = ofS true (tak c l) := by rw [a1, b1, ofS_filter _ (fun e => decide (e.pos ≤ t)), ofS_filter _ (fun e => decide (e.pos ≤ t)), h.f_]
  have e1 : ofS true (tak c.sw m) = ofS false (tak c l) := by rw [a1, b1, ofS_filter _ (fun e => decide (e.pos ≤ t)), ofS_filter _ (fun e => decide (e.pos ≤ t)), h.t_]
  refine ⟨?_, ?_⟩
  · have g1 := grow_is c l
    have g2 := grow_is c.sw m
    have q1 : ends c.to (tak c l) = t := by rw [← et, g1]
    have q2 : ends c.sw.to (tak c.sw m) = t := by rw [← ht, g2]
    rw [g1, g2, e0, e1, q1, q2]
    rfl
  · rw [a2, b2]
    refine ⟨h.l_.filter _, h.m_.filter _, ?_, ?_⟩
    · rw [ofS_filter _ (fun e => !decide (e.pos ≤ t)), ofS_filter _ (fun e => !decide (e.pos ≤ t)), h.f_]
    · rw [ofS_filter _ (fun e => !decide (e.pos ≤ t)), ofS_filter _ (fun e => !decide (e.pos ≤ t)), h.t_]
theorem grow_start (d : Bool) (e : Ed) (r : List (Bool × Ed)) (h0 : 0 ≤ e.pos) (h1 : 0 ≤ e.del) : Al.grow ((Cl.zero e.pos).take d e) r = Al.grow ⟨e.pos, e.pos, 0, 0, 0, 0⟩ ((d, e) :: r) := by
  rw [Al.grow, if_neg (by simp only; omega)]
  congr 1
  cases d <;> simp only [Cl.zero, Cl.take, Bool.false_eq_true, if_false, if_true, Cl.mk.injEq, and_true, true_and] <;> omega
def swk (k : Int) : Int := if k = 1 then 2 else if k = 2 then 1 else k
def Rg.sw (r : Rg) : Rg := ⟨swk r.kind, r.o0, r.on, r.b0, r.bn, r.a0, r.an⟩
def St.sw (s : St) : St := ⟨s.x, s.z, s.y, s.l.map Rg.sw⟩
theorem kindOf_sw (c : Cl) (p q : Ls) : kindOf c.sw q p = swk (kindOf c p q) := by
  unfold kindOf Cl.sw
  simp only
  by_cases h0 : c.n0 = 0
  · by_cases h1 : c.n1 = 0
    · simp [h0, h1, swk]
    · simp [h0, h1, swk]
  · by_cases h1 : c.n1 = 0
    · simp [h0, h1, swk]
    · by_cases hp : p = q
      · simp [h0, h1, hp, swk]
      · have : ¬ q = p := fun e => hp e.symm
        simp [h0, h1, hp, this, swk]
theorem St.add_sw (a b : Ls) (s : St) (c : Cl) : s.sw.add b a c.sw = (s.add a b c).sw := by
  unfold St.add
  simp only [St.sw, List.map_append, List.map_cons, List.map_nil, Rg.sw]
  rw [← kindOf_sw]
  rfl
theorem St.keep_sw (a b : Ls) (s : St) (t : Int) : s.sw.keep b a t = (s.keep a b t).sw := by
  unfold St.keep
  show (if s.x < t then s.sw.add b a (Cl.sw ⟨s.x, t, 0, 0, 0, 0⟩) else s.sw) = _
  rw [St.add_sw]
  split <;> rfl
theorem ofS_none {m : List (Bool × Ed)} (h0 : ofS false m = []) (h1 : ofS true m = []) : m = [] := by
  cases m with
  | nil => rfl
  | cons p r =>
    obtain ⟨s, e⟩ := p
    cases s
    · rw [ofS_same] at h0; cases h0
    · rw [ofS_same] at h1; cases h1
theorem loop_sw (a b : Ls) : ∀ (n : Nat) (l m : List (Bool × Ed)) (s : St), l.length ≤ n → Sw l m → (∀ p ∈ l, 0 ≤ p.2.pos ∧ 0 ≤ p.2.del) → loop b a s.sw m = (loop a b s l).sw
  | _, [], m, s, _, h, _ => by
    rw [ofS_none h.f_ h.t_, loop_nil, loop_nil]
  | 0, _ :: _, _, _, h, _, _ => by simp at h
  | n + 1, (d, e) :: r, m, s, hn, h, hp => by
    cases m with
    | nil =>
      have := h.symm.mem (p := (d, e)) (by simp)
      cases this
    | cons p' r' =>
      obtain ⟨d', e'⟩ := p'
      have m1 := h.mem (p := (d', e')) (by simp)
      have m2 := h.symm.mem (p := (d, e)) (by simp)
      have h1 : e.pos ≤ e'.pos := by
        rcases List.mem_cons.1 m1 with h' | h'
        · injection h' with _ h'; subst h'; exact Int.le_refl _
        · exact (List.pairwise_cons.1 h.l_).1 _ h'
      have h2 : e'.pos ≤ e.pos := by
        rcases List.mem_cons.1 m2 with h' | h'
        · injection h' with _ h'; subst h'; exact Int.le_refl _
        · exact (List.pairwise_cons.1 h.m_).1 _ h'
      have q1 := hp (d, e) (by simp)
      have q2 := hp _ m1
      simp only at q1 q2
      have ee : e'.pos = e.pos := by omega
      obtain ⟨g1, g2⟩ := h.grow (fun p hq => (hp p hq).2) ⟨e.pos, e.pos, 0, 0, 0, 0⟩
      rw [loop_cons, loop_cons, grow_start d e r q1.1 q1.2, grow_start d' e' r' q2.1 q2.2, ee]
      rw [show (⟨e.pos, e.pos, 0, 0, 0, 0⟩ : Cl) = Cl.sw ⟨e.pos, e.pos, 0, 0, 0, 0⟩ from rfl] at *
      have hrest : ∀ p ∈ (Al.grow (Cl.sw ⟨e.pos, e.pos, 0, 0, 0, 0⟩) ((d, e) :: r)).2, p ∈ (d, e) :: r := fun p hq => by
        rw [← tak_grow (Cl.sw ⟨e.pos, e.pos, 0, 0, 0, 0⟩) ((d, e) :: r)]
        exact List.mem_append_right _ hq
      have hlen : (Al.grow (Cl.sw ⟨e.pos, e.pos, 0, 0, 0, 0⟩) ((d, e) :: r)).2.length ≤ n := by
        have k := grow_start d e r q1.1 q1.2
        rw [show (⟨e.pos, e.pos, 0, 0, 0, 0⟩ : Cl) = Cl.sw ⟨e.pos, e.pos, 0, 0, 0, 0⟩ from rfl] at k
        rw [← k]
        have := grow_len ((Cl.zero e.pos).take d e) r
        simp at hn; omega
      rw [show Cl.sw (Cl.sw ⟨e.pos, e.pos, 0, 0, 0, 0⟩) = Cl.sw ⟨e.pos, e.pos, 0, 0, 0, 0⟩ from rfl] at g1 g2
      rw [g1]
      rw [show (Al.grow (Cl.sw ⟨e.pos, e.pos, 0, 0, 0, 0⟩) ((d, e) :: r)).1.sw.fr = (Al.grow (Cl.sw ⟨e.pos, e.pos, 0, 0, 0, 0⟩) ((d, e) :: r)).1.fr from rfl]
      rw [St.keep_sw, St.add_sw]
      exact loop_sw a b n _ _ _ hlen g2 fun p hq => hp p (hrest p hq)
theorem mrg_sw (o a b : Ls) : Sw (mrg (D o a) (D o b)) (mrg (D o b) (D o a)) := by
  obtain ⟨h0, h1⟩ := ofS_mrg _ (D o a) (D o b) (Nat.le_refl _)
  obtain ⟨h2, h3⟩ := ofS_mrg _ (D o b) (D o a) (Nat.le_refl _)
  exact ⟨mrg_srt o.length _ _ _ (-1) (-1) (Nat.le_refl _) (by simp) (by simp) (D_right o a) (D_right o b), mrg_srt o.length _ _ _ (-1) (-1) (Nat.le_refl _) (by simp) (by simp) (D_right o b) (D_right o a), by rw [h2, h1], by rw [h3, h0]⟩
/-- with the sides changed -/
theorem regs_sw (o a b : Ls) : regs o b a = (regs o a b).map Rg.sw := by
  have hl := (RInv.start o a b).low
  have h := loop_sw a b _ _ _ ⟨0, 0, 0, []⟩ (Nat.le_refl _) (mrg_sw o a b) fun p hp => ⟨(hl p hp).2.1, (hl p hp).2.2.1⟩
  unfold regs
  rw [show (⟨0, 0, 0, []⟩ : St) = St.sw ⟨0, 0, 0, []⟩ from rfl, h, St.keep_sw]
  rfl
end Go.Proofs.Ytofccahgmkifjaa.Al
namespace Go.Proofs.Ytofccahgmkifjaa.Al
open Go.Proofs.Ytofccahgmkifjaa.Df

/-- a line with its end -/
def shut (s : List UInt8) : List UInt8 := if s.getLast? = some 10 then s else s ++ [10]
def mk7 (x : UInt8) : List UInt8 := [x, x, x, x, x, x, x, 10]
/-- a region's lines, with marks -/
def mgX (p q r : Ls) : Ls := [mk7 60] ++ q.map shut ++ [mk7 124] ++ p.map shut ++ [mk7 61] ++ r.map shut ++ [mk7 62]
/-- a region's lines -/
def mgR (o a b : Ls) (r : Rg) : Ls :=
  if r.kind = 4 then mgX (cut o r.o0 r.on) (cut a r.a0 r.an) (cut b r.b0 r.bn)
  else if r.kind = 2 then cut b r.b0 r.bn else cut a r.a0 r.an
def mgF (o a b : Ls) (L : List Rg) : Ls := L.flatMap (mgR o a b)
def mgC : List Rg → Nat
  | [] => 0
  | r :: l => (if r.kind = 4 then 1 else 0) + mgC l
def mgL (o a b : Ls) : Ls := mgF o a b (regs o a b)
def mgN (o a b : Ls) : Nat := mgC (regs o a b)
theorem mgF_snoc (o a b : Ls) (L : List Rg) (r : Rg) : mgF o a b (L ++ [r]) = mgF o a b L ++ mgR o a b r := by simp [mgF]
theorem mgC_append : ∀ L M : List Rg, mgC (L ++ M) = mgC L + mgC M
  | [], M => by simp [mgC]
  | r :: L, M => by rw [List.cons_append, mgC, mgC, mgC_append L M]; omega
theorem mgC_snoc (L : List Rg) (r : Rg) : mgC (L ++ [r]) = mgC L + (if r.kind = 4 then 1 else 0) := by rw [mgC_append]; simp [mgC]
theorem mgC_le : ∀ L : List Rg, mgC L ≤ L.length
  | [] => Nat.le_refl _
  | r :: L => by
    have := mgC_le L
    rw [mgC, List.length_cons]
    split <;> omega
theorem mgC_none : ∀ L : List Rg, mgC L = 0 ↔ ∀ r ∈ L, r.kind ≠ 4
  | [] => by simp [mgC]
  | r :: L => by
    have ih := mgC_none L
    rw [mgC]
    by_cases h : r.kind = 4
    · simp [h]
    · simp [h, ih]
/-- a region's spans, as numbers -/
structure Spn (o a b : Ls) (r : Rg) (O ON A AN B BN : Nat) : Prop where
  o0 : r.o0 = O
  on : r.on = ON
  a0 : r.a0 = A
  an : r.an = AN
  b0 : r.b0 = B
  bn : r.bn = BN
  oo : O + ON ≤ o.length
  aa : A + AN ≤ a.length
  bb : B + BN ≤ b.length
  hk : holdsK r.kind (cut o r.o0 r.on) (cut a r.a0 r.an) (cut b r.b0 r.bn) = true
theorem Spn.of {o a b : Ls} {x y z : Int} {r : Rg} (h : chk o a b x y z r = true) (hx : 0 ≤ x) (hy : 0 ≤ y) (hz : 0 ≤ z) : (∃ O ON A AN B BN, Spn o a b r O ON A AN B BN) ∧ r.o0 = x ∧ r.a0 = y ∧ r.b0 = z ∧ 0 ≤ r.on ∧ 0 ≤ r.an ∧ 0 ≤ r.bn := by
  unfold chk at h
  rw [Bool.and_eq_true, Bool.and_eq_true, Bool.and_eq_true, fol_yes, fol_yes, fol_yes] at h
  obtain ⟨⟨⟨⟨h1, h2, h3⟩, h4, h5, h6⟩, h7, h8, h9⟩, hk⟩ := h
  obtain ⟨O, e1⟩ := Int.eq_ofNat_of_zero_le hx
  obtain ⟨A, e2⟩ := Int.eq_ofNat_of_zero_le hy
  obtain ⟨B, e3⟩ := Int.eq_ofNat_of_zero_le hz
  obtain ⟨ON, e4⟩ := Int.eq_ofNat_of_zero_le h2
  obtain ⟨AN, e5⟩ := Int.eq_ofNat_of_zero_le h5
  obtain ⟨BN, e6⟩ := Int.eq_ofNat_of_zero_le h8
  rw [← h1, ← h4, ← h7] at hk
  exact ⟨⟨O, ON, A, AN, B, BN, by omega, e4, by omega, e5, by omega, e6, by omega, by omega, by omega, hk⟩, h1, h4, h7, h2, h5, h8⟩
theorem Spn.mem {o a b : Ls} : ∀ {L : List Rg} {x y z : Int}, okF o a b x y z L = true → 0 ≤ x → 0 ≤ y → 0 ≤ z → ∀ r ∈ L, ∃ O ON A AN B BN, Spn o a b r O ON A AN B BN
  | [], _, _, _, _, _, _, _, r, hr => by cases hr
  | q :: L, x, y, z, h, hx, hy, hz, r, hr => by
    rw [okF, Bool.and_eq_true] at h
    obtain ⟨h1, h2⟩ := h
    obtain ⟨e, _, _, _, h3, h4, h5⟩ := Spn.of h1 hx hy hz
    rcases List.mem_cons.1 hr with rfl | hr
    · exact e
    · exact Spn.mem h2 (by omega) (by omega) (by omega) r hr
theorem Spn.regs (o a b : Ls) (r : Rg) (hr : r ∈ Al.regs o a b) : ∃ O ON A AN B BN, Spn o a b r O ON A AN B BN :=
  Spn.mem (regs_ok o a b).1 (Int.le_refl _) (Int.le_refl _) (Int.le_refl _) r hr
theorem holdsK_cases {k : Int} {p q r : Ls} (h : holdsK k p q r = true) : (k = 0 ∧ p = q ∧ p = r) ∨ (k = 1 ∧ p = r) ∨ (k = 2 ∧ p = q) ∨ (k = 3 ∧ q = r) ∨ k = 4 := by
  unfold holdsK at h
  by_cases h0 : k = 0
  · simp [h0] at h; exact .inl ⟨h0, h⟩
  · by_cases h1 : k = 1
    · simp [h1] at h; exact .inr (.inl ⟨h1, h⟩)
    · by_cases h2 : k = 2
      · simp [h2] at h; exact .inr (.inr (.inl ⟨h2, h⟩))
      · by_cases h3 : k = 3
        · simp [h3] at h; exact .inr (.inr (.inr (.inl ⟨h3, h⟩)))
        · simp [h0, h1, h2, h3] at h; exact .inr (.inr (.inr (.inr h)))
theorem drop_cut (l : Ls) (x n : Int) (hx : 0 ≤ x) (hn : 0 ≤ n) : l.drop x.toNat = cut l x n ++ l.drop (x + n).toNat := by
  unfold cut
  have e : (x + n).toNat = x.toNat + n.toNat := by omega
  rw [e, ← List.drop_drop, List.take_append_drop]
/-- where all regions are a's, a is told -/
theorem mgF_a {o a b : Ls} : ∀ {L : List Rg} {x y z : Int}, okF o a b x y z L = true → 0 ≤ x → 0 ≤ y → 0 ≤ z → (∀ r ∈ L, r.kind ≠ 2 ∧ r.kind ≠ 4) → mgF o a b L = a.drop y.toNat
  | [], x, y, z, h, _, _, _, _ => by
    simp [okF] at h
    rw [h.1.2, Int.toNat_natCast, List.drop_length]; rfl
  | q :: L, x, y, z, h, hx, hy, hz, hk => by
    rw [okF, Bool.and_eq_true] at h
    obtain ⟨h1, h2⟩ := h
    obtain ⟨_, _, e2, _, h3, h4, h5⟩ := Spn.of h1 hx hy hz
    have ih := mgF_a h2 (by omega) (by omega) (by omega) fun r hr => hk r (by simp [hr])
    have k := hk q (by simp)
    have e : mgR o a b q = cut a y q.an := by unfold mgR; rw [if_neg k.2, if_neg k.1, e2]
    unfold mgF at ih ⊢
    rw [List.flatMap_cons, ih, e, ← drop_cut a y q.an hy h4]
/-- where all regions are b's, b is told -/
theorem mgF_b {o a b : Ls} : ∀ {L : List Rg} {x y z : Int}, okF o a b x y z L = true → 0 ≤ x → 0 ≤ y → 0 ≤ z → (∀ r ∈ L, r.kind ≠ 1 ∧ r.kind ≠ 4) → mgF o a b L = b.drop z.toNat
  | [], x, y, z, h, _, _, _, _ => by
    simp [okF] at h
    rw [h.2, Int.toNat_natCast, List.drop_length]; rfl
  | q :: L, x, y, z, h, hx, hy, hz, hk => by
    rw [okF, Bool.and_eq_true] at h
    obtain ⟨h1, h2⟩ := h
    obtain ⟨⟨_, _, _, _, _, _, sp⟩, _, _, e3, h3, h4, h5⟩ := Spn.of h1 hx hy hz
    have ih := mgF_b h2 (by omega) (by omega) (by omega) fun r hr => hk r (by simp [hr])
    have k := hk q (by simp)
    have e : mgR o a b q = cut b z q.bn := by
      unfold mgR
      rw [if_neg k.2, ← e3]
      rcases holdsK_cases sp.hk with ⟨k0, p1, p2⟩ | ⟨k1, _⟩ | ⟨k2, _⟩ | ⟨k3, p1⟩ | k4
      · rw [if_neg (by omega), ← p1, p2]
      · exact absurd k1 k.1
      · rw [if_pos k2]
      · rw [if_neg (by omega), p1]
      · exact absurd k4 k.2
    unfold mgF at ih ⊢
    rw [List.flatMap_cons, ih, e, ← drop_cut b z q.bn hz h5]
theorem Kin.all : ∀ {l m n : List Rg}, Kin l m n → (∀ r ∈ l, r.kind = 0 ∨ r.kind = 1) ∧ (∀ r ∈ m, r.kind = 0 ∨ r.kind = 2) ∧ (∀ r ∈ n, r.kind = 0 ∨ r.kind = 3)
  | [], [], [], _ => by simp
  | r :: l, q :: m, s :: n, h => by
    obtain ⟨h1, h2, h3⟩ := Kin.all h.2
    rcases h.1 with ⟨k1, k2, k3⟩ | ⟨k1, k2, k3⟩
    · simp only [List.mem_cons, forall_eq_or_imp, k1, k2, k3, true_or, true_and]; exact ⟨h1, h2, h3⟩
    · simp only [List.mem_cons, forall_eq_or_imp, k1, k2, k3, or_true, true_and]; exact ⟨h1, h2, h3⟩
  | [], _ :: _, _, h => by cases h
  | [], [], _ :: _, h => by cases h
  | _ :: _, [], _, h => by cases h
  | _ :: _, _ :: _, [], h => by cases h
/-- P9.3: what one side alone changed is taken, and what both changed alike -/
theorem mg_one (o a : Ls) : (mgL o a o = a ∧ mgN o a o = 0) ∧ (mgL o o a = a ∧ mgN o o a = 0) ∧ mgL o a a = a ∧ mgN o a a = 0 := by
  obtain ⟨h1, h2, h3⟩ := (regs_one o a).all
  have z : (0 : Int) ≤ 0 := Int.le_refl _
  refine ⟨⟨?_, ?_⟩, ⟨?_, ?_⟩, ?_, ?_⟩
  · exact mgF_a (regs_ok o a o).1 z z z fun r hr => by have := h1 r hr; omega
  · exact (mgC_none _).2 fun r hr => by have := h1 r hr; omega
  · exact mgF_b (regs_ok o o a).1 z z z fun r hr => by have := h2 r hr; omega
  · exact (mgC_none _).2 fun r hr => by have := h2 r hr; omega
  · exact mgF_a (regs_ok o a a).1 z z z fun r hr => by have := h3 r hr; omega
  · exact (mgC_none _).2 fun r hr => by have := h3 r hr; omega
theorem swk_four (k : Int) : swk k = 4 ↔ k = 4 := by
  unfold swk
  by_cases h1 : k = 1
  · simp [h1]
  · by_cases h2 : k = 2
    · simp [h2]
    · simp [h1, h2]
/-- P9.3: with the sides changed there are as many clashes -/
theorem mgN_sw (o a b : Ls) : mgN o b a = mgN o a b := by
  unfold mgN
  rw [regs_sw]
  induction regs o a b with
  | nil => rfl
  | cons r l ih =>
    rw [List.map_cons, mgC, mgC, ih]
    have : (r.sw.kind = 4) = (r.kind = 4) := propext (swk_four r.kind)
    simp only [this]
/-- and, where there is none, the same lines -/
theorem mgL_sw (o a b : Ls) (h : mgN o a b = 0) : mgL o b a = mgL o a b := by
  have hk := (mgC_none _).1 h
  have hs := Spn.regs o a b
  unfold mgL mgF
  rw [regs_sw, List.flatMap_map]
  generalize regs o a b = L at hk hs
  induction L with
  | nil => rfl
  | cons r l ih =>
    rw [List.flatMap_cons, List.flatMap_cons, ih (fun q hq => hk q (by simp [hq])) (fun q hq => hs q (by simp [hq]))]
    congr 1
    obtain ⟨_, _, _, _, _, _, sp⟩ := hs r (by simp)
    have k4 := hk r (by simp)
    unfold mgR
    rw [if_neg k4, if_neg (show ¬ r.sw.kind = 4 from fun h => k4 ((swk_four _).1 h))]
    show (if swk r.kind = 2 then cut a r.a0 r.an else cut b r.b0 r.bn) = _
    rcases holdsK_cases sp.hk with ⟨k0, p1, p2⟩ | ⟨k1, _⟩ | ⟨k2, _⟩ | ⟨k3, p1⟩ | k4'
    · rw [k0, if_neg (by decide), if_neg (by decide), ← p1, p2]
    · rw [k1, if_pos (by decide), if_neg (by decide)]
    · rw [k2, if_neg (by decide), if_pos (by decide)]
    · rw [k3, if_neg (by decide), if_neg (by decide), p1]
    · exact absurd k4' k4
/-- how many lines a region has here -/
def mgW (r : Rg) : Int := if r.kind = 4 then r.on + r.an + r.bn + 4 else if r.kind = 2 then r.bn else r.an
theorem cut_len {l : Ls} {x n : Int} {X N : Nat} (hx : x = X) (hn : n = N) (h : X + N ≤ l.length) : (cut l x n).length = N := by
  unfold cut
  rw [hx, hn, Int.toNat_natCast, Int.toNat_natCast, List.length_take, List.length_drop]
  omega
theorem mgR_len {o a b : Ls} {r : Rg} {O ON A AN B BN : Nat} (h : Spn o a b r O ON A AN B BN) : ((mgR o a b r).length : Int) = mgW r := by
  have h1 := cut_len h.o0 h.on h.oo
  have h2 := cut_len h.a0 h.an h.aa
  have h3 := cut_len h.b0 h.bn h.bb
  unfold mgR mgW mgX
  have e1 := h.on
  have e2 := h.an
  have e3 := h.bn
  split
  · simp only [List.length_append, List.length_map, List.length_cons, List.length_nil, h1, h2, h3]; omega
  · split
    · rw [h3]; omega
    · rw [h2]; omega
theorem mgR_last {o a b : Ls} {r : Rg} (h : r.kind = 4) : (mgR o a b r).getLast? = some (mk7 62) := by
  unfold mgR mgX
  rw [if_pos h]
  exact List.getLast?_concat
theorem mgR_le {o a b : Ls} {r : Rg} {O ON A AN B BN : Nat} (h : Spn o a b r O ON A AN B BN) : (mgR o a b r).length ≤ o.length + a.length + b.length + 4 := by
  have h1 := mgR_len h
  have e1 := h.on
  have e2 := h.an
  have e3 := h.bn
  have := h.oo
  have := h.aa
  have := h.bb
  unfold mgW at h1
  split at h1
  · omega
  · split at h1 <;> omega
theorem okF_count {o a b : Ls} : ∀ {L : List Rg} {x y z : Int}, okF o a b x y z L = true → 0 ≤ x → 0 ≤ y → 0 ≤ z → (∀ r ∈ L, 1 ≤ r.on + r.an + r.bn) → (L.length : Int) ≤ o.length - x + (a.length - y) + (b.length - z)
  | [], x, y, z, h, _, _, _, _ => by
    simp [okF] at h
    simp only [List.length_nil]; omega
  | q :: L, x, y, z, h, hx, hy, hz, hk => by
    rw [okF, Bool.and_eq_true] at h
    obtain ⟨h1, h2⟩ := h
    obtain ⟨_, _, _, _, h3, h4, h5⟩ := Spn.of h1 hx hy hz
    have ih := okF_count h2 (by omega) (by omega) (by omega) fun r hr => hk r (by simp [hr])
    have := hk q (by simp)
    rw [List.length_cons]
    omega
theorem regs_count (o a b : Ls) : (regs o a b).length ≤ o.length + a.length + b.length := by
  have h := regs_ok o a b
  have := okF_count h.1 (Int.le_refl _) (Int.le_refl _) (Int.le_refl _) h.2.2
  omega
theorem mgF_le {o a b : Ls} {m : Nat} : ∀ {L : List Rg}, (∀ r ∈ L, (mgR o a b r).length ≤ m) → (mgF o a b L).length ≤ L.length * m
  | [], _ => by simp [mgF]
  | r :: L, h => by
    have ih := mgF_le (L := L) fun q hq => h q (by simp [hq])
    have := h r (by simp)
    unfold mgF at ih ⊢
    rw [List.flatMap_cons, List.length_append, List.length_cons, Nat.succ_mul]
    omega
theorem mg_lens {o a b : Ls} (ho : o.length ≤ 1000) (ha : a.length ≤ 1000) (hb : b.length ≤ 1000) (k : Nat) : (mgF o a b ((regs o a b).take k)).length ≤ 10000000 := by
  have h1 := regs_count o a b
  have h2 := mgF_le (o := o) (a := a) (b := b) (m := 3004) (L := (regs o a b).take k) fun r hr => by
    obtain ⟨_, _, _, _, _, _, sp⟩ := Spn.regs o a b r (List.mem_of_mem_take hr)
    have := mgR_le sp
    omega
  have h3 : ((regs o a b).take k).length ≤ 3000 := by rw [List.length_take]; omega
  have := Nat.mul_le_mul_right 3004 h3
  omega
theorem cut_flat (l : Ls) (x n : Int) : (cut l x n).flatten.length ≤ l.flatten.length := by
  have h1 : (l.drop x.toNat).flatten.length ≤ l.flatten.length := by
    conv => rhs; rw [← List.take_append_drop x.toNat l, List.flatten_append, List.length_append]
    omega
  have h2 : (cut l x n).flatten.length ≤ (l.drop x.toNat).flatten.length := by
    unfold cut
    conv => rhs; rw [← List.take_append_drop n.toNat (l.drop x.toNat), List.flatten_append, List.length_append]
    omega
  omega
theorem shut_le (s : List UInt8) : (shut s).length ≤ s.length + 1 := by
  unfold shut
  split
  · omega
  · rw [List.length_append]; simp
theorem shuts_flat : ∀ l : Ls, (l.map shut).flatten.length ≤ l.flatten.length + l.length
  | [] => by simp
  | s :: l => by
    have h1 := shuts_flat l
    have h2 := shut_le s
    rw [List.map_cons, List.flatten_cons, List.flatten_cons, List.length_append, List.length_append, List.length_cons]
    omega
/-- how many bytes there are together -/
theorem mgR_flat {o a b : Ls} {r : Rg} (hr : r ∈ regs o a b) : (mgR o a b r).flatten.length ≤ o.flatten.length + a.flatten.length + b.flatten.length + (o.length + a.length + b.length) + 32 := by
  obtain ⟨O, ON, A, AN, B, BN, sp⟩ := Spn.regs o a b r hr
  have h1 := cut_flat o r.o0 r.on
  have h2 := cut_flat a r.a0 r.an
  have h3 := cut_flat b r.b0 r.bn
  have k1 := cut_len sp.o0 sp.on sp.oo
  have k2 := cut_len sp.a0 sp.an sp.aa
  have k3 := cut_len sp.b0 sp.bn sp.bb
  have s1 := shuts_flat (cut o r.o0 r.on)
  have s2 := shuts_flat (cut a r.a0 r.an)
  have s3 := shuts_flat (cut b r.b0 r.bn)
  have := sp.oo
  have := sp.aa
  have := sp.bb
  have m : ∀ x, (mk7 x).length = 8 := fun _ => rfl
  unfold mgR mgX
  split
  · simp only [List.flatten_append, List.flatten_cons, List.flatten_nil, List.length_append, List.length_nil, m]
    omega
  · split <;> omega
theorem flatF_le {o a b : Ls} {m : Nat} : ∀ {L : List Rg}, (∀ r ∈ L, (mgR o a b r).flatten.length ≤ m) → (mgF o a b L).flatten.length ≤ L.length * m
  | [], _ => by simp [mgF]
  | r :: L, h => by
    have ih := flatF_le (L := L) fun q hq => h q (by simp [hq])
    have := h r (by simp)
    unfold mgF at ih ⊢
    rw [List.flatMap_cons, List.flatten_append, List.length_append, List.length_cons, Nat.succ_mul]
    omega
theorem mg_flat {o a b : Ls} {m : Nat} (hm : m ≤ 60) (ho : o.length ≤ m) (ha : a.length ≤ m) (hb : b.length ≤ m) (fo : o.flatten.length ≤ m) (fa : a.flatten.length ≤ m) (fb : b.flatten.length ≤ m) : (mgL o a b).flatten.length ≤ 1000000 := by
  have h1 := regs_count o a b
  have h2 := flatF_le (o := o) (a := a) (b := b) (m := 392) (L := regs o a b) fun r hr => by
    have := mgR_flat hr
    omega
  have h3 : (regs o a b).length ≤ 180 := by omega
  have := Nat.mul_le_mul_right 392 h3
  unfold mgL
  omega
end Go.Proofs.Ytofccahgmkifjaa.Al
