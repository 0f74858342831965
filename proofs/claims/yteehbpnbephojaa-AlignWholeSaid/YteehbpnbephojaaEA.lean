/-
  Longest common subsequences, edits, and the way between two lists: on lists alone.
-/
namespace Go.Proofs.Yteehbpnbephojaa.Df

/-- how long the longest common subsequence is -/
def lcs {α : Type} [DecidableEq α] : List α → List α → Nat
  | [], _ => 0
  | _ :: _, [] => 0
  | a :: x, b :: y => if a = b then lcs x y + 1 else max (lcs x (b :: y)) (lcs (a :: x) y)
termination_by x y => x.length + y.length

/-- two subsequences of one list have much in common -/
theorem sub_meet {α : Type} : ∀ (b s t : List α), s.Sublist b → t.Sublist b → ∃ u : List α, u.Sublist s ∧ u.Sublist t ∧ s.length + t.length ≤ u.length + b.length
  | [], s, t, h1, h2 => by
    rw [List.sublist_nil.1 h1, List.sublist_nil.1 h2]
    exact ⟨[], List.nil_sublist _, List.nil_sublist _, by simp⟩
  | c :: b, s, t, h1, h2 => by
    rcases List.sublist_cons_iff.1 h1 with k1 | ⟨s', rfl, k1⟩
    · rcases List.sublist_cons_iff.1 h2 with k2 | ⟨t', rfl, k2⟩
      · obtain ⟨u, a1, a2, a3⟩ := sub_meet b s t k1 k2
        exact ⟨u, a1, a2, by simp; omega⟩
      · obtain ⟨u, a1, a2, a3⟩ := sub_meet b s t' k1 k2
        exact ⟨u, a1, a2.cons c, by simp; omega⟩
    · rcases List.sublist_cons_iff.1 h2 with k2 | ⟨t', rfl, k2⟩
      · obtain ⟨u, a1, a2, a3⟩ := sub_meet b s' t k1 k2
        exact ⟨u, a1.cons c, a2, by simp; omega⟩
      · obtain ⟨u, a1, a2, a3⟩ := sub_meet b s' t' k1 k2
        exact ⟨c :: u, a1.cons_cons c, a2.cons_cons c, by simp; omega⟩
section
variable {α : Type} [DecidableEq α]
theorem lcs_nil_left (y : List α) : lcs [] y = 0 := by rw [lcs]
theorem lcs_nil_right (x : List α) : lcs x [] = 0 := by
  cases x with
  | nil => rw [lcs]
  | cons a x => rw [lcs]
theorem lcs_cons (a b : α) (x y : List α) : lcs (a :: x) (b :: y) = if a = b then lcs x y + 1 else max (lcs x (b :: y)) (lcs (a :: x) y) := by rw [lcs]
/-- it is reached -/
theorem lcs_sub : ∀ (n : Nat) (x y : List α), x.length + y.length ≤ n → ∃ s : List α, s.Sublist x ∧ s.Sublist y ∧ s.length = lcs x y
  | _, [], y, _ => ⟨[], List.nil_sublist _, List.nil_sublist _, by rw [lcs_nil_left]; rfl⟩
  | _, x, [], _ => ⟨[], List.nil_sublist _, List.nil_sublist _, by rw [lcs_nil_right]; rfl⟩
  | 0, a :: x, b :: y, h => by simp at h
  | n + 1, a :: x, b :: y, h => by
    simp only [List.length_cons] at h
    rw [lcs_cons]
    by_cases e : a = b
    · obtain ⟨s, h1, h2, h3⟩ := lcs_sub n x y (by omega)
      rw [if_pos e]
      subst e
      exact ⟨a :: s, h1.cons_cons a, h2.cons_cons a, by simp [h3]⟩
    · rw [if_neg e]
      obtain ⟨s, h1, h2, h3⟩ := lcs_sub n x (b :: y) (by simp; omega)
      obtain ⟨t, k1, k2, k3⟩ := lcs_sub n (a :: x) y (by simp; omega)
      rcases Nat.le_total (lcs (a :: x) y) (lcs x (b :: y)) with hl | hl
      · exact ⟨s, h1.cons a, h2, by omega⟩
      · exact ⟨t, k1, k2.cons b, by omega⟩
/-- and never passed -/
theorem lcs_ge : ∀ (n : Nat) (x y s : List α), x.length + y.length ≤ n → s.Sublist x → s.Sublist y → s.length ≤ lcs x y
  | _, [], y, s, _, h1, _ => by rw [List.sublist_nil.1 h1]; exact Nat.zero_le _
  | _, x, [], s, _, _, h2 => by rw [List.sublist_nil.1 h2]; exact Nat.zero_le _
  | 0, a :: x, b :: y, _, h, _, _ => by simp at h
  | n + 1, a :: x, b :: y, s, h, h1, h2 => by
    simp only [List.length_cons] at h
    rw [lcs_cons]
    by_cases e : a = b
    · rw [if_pos e]
      subst e
      cases s with
      | nil => exact Nat.zero_le _
      | cons c s =>
        have k1 : s.Sublist x := by
          rcases List.sublist_cons_iff.1 h1 with h | ⟨r, hr, hs⟩
          · exact (List.sublist_cons_self c s).trans h
          · cases hr; exact hs
        have k2 : s.Sublist y := by
          rcases List.sublist_cons_iff.1 h2 with h | ⟨r, hr, hs⟩
          · exact (List.sublist_cons_self c s).trans h
          · cases hr; exact hs
        have := lcs_ge n x y s (by omega) k1 k2
        simp; omega
    · rw [if_neg e]
      rcases List.sublist_cons_iff.1 h1 with k1 | ⟨r, rfl, k1⟩
      · have := lcs_ge n x (b :: y) s (by simp; omega) k1 h2
        omega
      · rcases List.sublist_cons_iff.1 h2 with k2 | ⟨r', hr, k2⟩
        · have := lcs_ge n (a :: x) y (a :: r) (by simp; omega) h1 k2
          omega
        · injection hr with h3 _
          exact absurd h3 e
theorem lcs_le_iff {x y : List α} {n : Nat} (h : ∀ s : List α, s.Sublist x → s.Sublist y → s.length ≤ n) : lcs x y ≤ n := by
  obtain ⟨s, h1, h2, h3⟩ := lcs_sub _ x y (Nat.le_refl _)
  rw [← h3]; exact h s h1 h2
theorem le_lcs {x y s : List α} (h1 : s.Sublist x) (h2 : s.Sublist y) : s.length ≤ lcs x y := lcs_ge _ x y s (Nat.le_refl _) h1 h2
theorem lcs_comm (x y : List α) : lcs x y = lcs y x :=
  Nat.le_antisymm (lcs_le_iff fun _ h1 h2 => le_lcs h2 h1) (lcs_le_iff fun _ h1 h2 => le_lcs h2 h1)
theorem lcs_rev_le (x y : List α) : lcs x y ≤ lcs x.reverse y.reverse :=
  lcs_le_iff fun s h1 h2 => by
    have := le_lcs (List.reverse_sublist.2 h1) (List.reverse_sublist.2 h2)
    rwa [List.length_reverse] at this
theorem lcs_rev (x y : List α) : lcs x.reverse y.reverse = lcs x y :=
  Nat.le_antisymm (by have := lcs_rev_le x.reverse y.reverse; rwa [List.reverse_reverse, List.reverse_reverse] at this) (lcs_rev_le x y)
theorem lcs_snoc (a b : α) (x y : List α) : lcs (x ++ [a]) (y ++ [b]) = if a = b then lcs x y + 1 else max (lcs x (y ++ [b])) (lcs (x ++ [a]) y) := by
  rw [← lcs_rev, List.reverse_append, List.reverse_append]
  simp only [List.reverse_cons, List.reverse_nil, List.nil_append, List.singleton_append]
  rw [lcs_cons, lcs_rev]
  rw [← lcs_rev x (y ++ [b]), ← lcs_rev (x ++ [a]) y, List.reverse_append, List.reverse_append]
  simp only [List.reverse_cons, List.reverse_nil, List.nil_append, List.singleton_append]
theorem lcs_front : ∀ (p x y : List α), lcs (p ++ x) (p ++ y) = p.length + lcs x y
  | [], x, y => by simp
  | a :: p, x, y => by
    rw [List.cons_append, List.cons_append, lcs_cons, if_pos rfl, lcs_front p x y]
    simp; omega
theorem lcs_back (s x y : List α) : lcs (x ++ s) (y ++ s) = lcs x y + s.length := by
  rw [← lcs_rev, List.reverse_append, List.reverse_append, lcs_front, lcs_rev, List.length_reverse]
  omega
theorem lcs_self (x : List α) : lcs x x = x.length := by
  have := lcs_front x [] []
  rw [List.append_nil, lcs_nil_left] at this
  omega
theorem lcs_le_left (x y : List α) : lcs x y ≤ x.length := lcs_le_iff fun _ h _ => h.length_le
theorem lcs_le_right (x y : List α) : lcs x y ≤ y.length := lcs_le_iff fun _ _ h => h.length_le
theorem lcs_chain (a b c : List α) : lcs a b + lcs b c ≤ lcs a c + b.length := by
  obtain ⟨s, h1, h2, h3⟩ := lcs_sub _ a b (Nat.le_refl _)
  obtain ⟨t, k1, k2, k3⟩ := lcs_sub _ b c (Nat.le_refl _)
  obtain ⟨u, a1, a2, a3⟩ := sub_meet b s t h2 k1
  have := le_lcs (a1.trans h1) (a2.trans k2)
  omega
end

/-- an edit -/
structure Ed where
  pos : Int
  del : Int
  ins : List (List UInt8)
abbrev Ls := List (List UInt8)
def emit (pos del : Nat) (ins : Ls) : List Ed := if del = 0 ∧ ins = [] then [] else [⟨pos, del, ins⟩]
/-- the way, line by line: behind 'pos' lines of a 'del' have gone, and 'ins' come, since a line stayed last -/
def go : Ls → Ls → Nat → Nat → Ls → List Ed
  | [], [], pos, del, ins => emit pos del ins
  | [], b :: y, pos, del, ins => go [] y pos del (ins ++ [b])
  | _ :: x, [], pos, del, ins => go x [] pos (del + 1) ins
  | a :: x, b :: y, pos, del, ins =>
    if a = b then emit pos del ins ++ go x y (pos + del + 1) 0 []
    else if lcs (a :: x) y ≤ lcs x (b :: y) then go x (b :: y) pos (del + 1) ins else go (a :: x) y pos del (ins ++ [b])
termination_by x y => x.length + y.length
theorem go_nil (pos del : Nat) (ins : Ls) : go [] [] pos del ins = emit pos del ins := by rw [go]
theorem go_come (b : List UInt8) (y : Ls) (pos del : Nat) (ins : Ls) : go [] (b :: y) pos del ins = go [] y pos del (ins ++ [b]) := by rw [go]
theorem go_gone (a : List UInt8) (x : Ls) (pos del : Nat) (ins : Ls) : go (a :: x) [] pos del ins = go x [] pos (del + 1) ins := by rw [go]
theorem go_both (a b : List UInt8) (x y : Ls) (pos del : Nat) (ins : Ls) : go (a :: x) (b :: y) pos del ins =
    if a = b then emit pos del ins ++ go x y (pos + del + 1) 0 []
    else if lcs (a :: x) y ≤ lcs x (b :: y) then go x (b :: y) pos (del + 1) ins else go (a :: x) y pos del (ins ++ [b]) := by rw [go]
theorem go_all_come : ∀ (y : Ls) (pos del : Nat) (ins : Ls), go [] y pos del ins = emit pos del (ins ++ y)
  | [], pos, del, ins => by rw [go_nil, List.append_nil]
  | b :: y, pos, del, ins => by rw [go_come, go_all_come y]; simp
theorem go_all_gone : ∀ (x : Ls) (pos del : Nat) (ins : Ls), go x [] pos del ins = emit pos (del + x.length) ins
  | [], pos, del, ins => by rw [go_nil]; simp
  | a :: x, pos, del, ins => by rw [go_gone, go_all_gone x]; simp; congr 1; omega
/-- one rule for what is in the program's own order -/
theorem go_ind (P : Ls → Ls → Nat → Nat → Ls → List Ed → Prop) (h0 : ∀ pos del ins, P [] [] pos del ins (emit pos del ins))
    (h1 : ∀ b y pos del ins r, P [] y pos del (ins ++ [b]) r → P [] (b :: y) pos del ins r) (h2 : ∀ a x pos del ins r, P x [] pos (del + 1) ins r → P (a :: x) [] pos del ins r)
    (h3 : ∀ a x y pos del ins r, P x y (pos + del + 1) 0 [] r → P (a :: x) (a :: y) pos del ins (emit pos del ins ++ r))
    (h4 : ∀ a b x y pos del ins r, a ≠ b → lcs (a :: x) y ≤ lcs x (b :: y) → P x (b :: y) pos (del + 1) ins r → P (a :: x) (b :: y) pos del ins r)
    (h5 : ∀ a b x y pos del ins r, a ≠ b → ¬ lcs (a :: x) y ≤ lcs x (b :: y) → P (a :: x) y pos del (ins ++ [b]) r → P (a :: x) (b :: y) pos del ins r) :
    ∀ (n : Nat) (x y : Ls) (pos del : Nat) (ins : Ls), x.length + y.length ≤ n → P x y pos del ins (go x y pos del ins)
  | _, [], [], pos, del, ins, _ => by rw [go_nil]; exact h0 _ _ _
  | 0, [], b :: y, pos, del, ins, h => by simp at h
  | n + 1, [], b :: y, pos, del, ins, h => by
    simp only [List.length_cons, List.length_nil] at h
    rw [go_come]; exact h1 _ _ _ _ _ _ (go_ind P h0 h1 h2 h3 h4 h5 n [] y _ _ _ (by simp; omega))
  | 0, a :: x, _, pos, del, ins, h => by simp at h
  | n + 1, a :: x, [], pos, del, ins, h => by
    simp only [List.length_cons, List.length_nil] at h
    rw [go_gone]; exact h2 _ _ _ _ _ _ (go_ind P h0 h1 h2 h3 h4 h5 n x [] _ _ _ (by simp; omega))
  | n + 1, a :: x, b :: y, pos, del, ins, h => by
    simp only [List.length_cons] at h
    rw [go_both]
    split
    · rename_i e
      subst e
      exact h3 _ _ _ _ _ _ _ (go_ind P h0 h1 h2 h3 h4 h5 n x y _ _ _ (by omega))
    · rename_i e
      split
      · rename_i hl
        exact h4 _ _ _ _ _ _ _ _ e hl (go_ind P h0 h1 h2 h3 h4 h5 n x (b :: y) _ _ _ (by simp; omega))
      · rename_i hl
        exact h5 _ _ _ _ _ _ _ _ e hl (go_ind P h0 h1 h2 h3 h4 h5 n (a :: x) y _ _ _ (by simp; omega))

/-- how many lines go and come -/
def size : List Ed → Int
  | [] => 0
  | e :: l => max 0 e.del + e.ins.length + size l
theorem size_append : ∀ l r : List Ed, size (l ++ r) = size l + size r
  | [], r => by simp [size]
  | e :: l, r => by rw [List.cons_append, size, size, size_append l r]; omega
theorem size_emit (pos del : Nat) (ins : Ls) : size (emit pos del ins) = del + ins.length := by
  unfold emit
  split
  · rename_i h; rw [h.1, h.2]; rfl
  · simp [size]
theorem size_go (x y : Ls) (pos del : Nat) (ins : Ls) : size (go x y pos del ins) + 2 * (lcs x y : Int) = x.length + y.length + del + ins.length := by
  refine go_ind (fun x y _ del ins r => size r + 2 * (lcs x y : Int) = x.length + y.length + del + ins.length) ?_ ?_ ?_ ?_ ?_ ?_ _ x y pos del ins (Nat.le_refl _)
  · intro pos del ins; rw [size_emit, lcs_nil_left]; simp
  · intro b y pos del ins r h; rw [lcs_nil_left] at h ⊢; simp at h ⊢; omega
  · intro a x pos del ins r h; rw [lcs_nil_right] at h ⊢; simp at h ⊢; omega
  · intro a x y pos del ins r h; rw [size_append, size_emit, lcs_cons, if_pos rfl]; simp at h ⊢; omega
  · intro a b x y pos del ins r hab hl h; rw [lcs_cons, if_neg hab]; simp at h ⊢; omega
  · intro a b x y pos del ins r hab hl h; rw [lcs_cons, if_neg hab]; simp at h ⊢; omega

/-- are edits right, behind an edit that ends at 'last'? -/
def right (n : Int) : Int → List Ed → Bool
  | _, [] => true
  | last, e :: l => (decide (0 ≤ e.del) && decide (e.del ≠ 0 ∨ e.ins ≠ []) && decide (last < e.pos) && decide (e.pos ≤ n) && decide (e.del ≤ n - e.pos)) && right n (e.pos + e.del) l
theorem right_cons (n last : Int) (e : Ed) (l : List Ed) : right n last (e :: l) = true ↔ (0 ≤ e.del ∧ (e.del ≠ 0 ∨ e.ins ≠ []) ∧ last < e.pos ∧ e.pos ≤ n ∧ e.del ≤ n - e.pos) ∧ right n (e.pos + e.del) l = true := by
  simp only [right, Bool.and_eq_true, decide_eq_true_eq, and_assoc]
theorem right_emit (n last : Int) (pos del : Nat) (ins : Ls) (r : List Ed) (h1 : last < pos) (h2 : (pos + del : Int) ≤ n) (hr : ∀ last' : Int, last' ≤ pos + del → right n last' r = true) : right n last (emit pos del ins ++ r) = true := by
  unfold emit
  split
  · exact hr last (by omega)
  · rename_i h
    rw [List.singleton_append, right_cons]
    refine ⟨⟨by simp, ?_, h1, by simp; omega, by simp; omega⟩, hr _ (by simp)⟩
    by_cases hd : del = 0
    · exact .inr fun e => h ⟨hd, e⟩
    · exact .inl (by simp; exact hd)
theorem right_go (n : Int) (x y : Ls) (pos del : Nat) (ins : Ls) (last : Int) (h1 : last < pos) (h2 : (pos + del + x.length : Int) ≤ n) : right n last (go x y pos del ins) = true := by
  refine go_ind (fun x y pos del ins r => ∀ last : Int, last < pos → (pos + del + x.length : Int) ≤ n → right n last r = true) ?_ ?_ ?_ ?_ ?_ ?_ _ x y pos del ins (Nat.le_refl _) last h1 h2
  · intro pos del ins last h1 h2
    have := right_emit n last pos del ins [] h1 (by simp at h2; omega) (fun _ _ => rfl)
    rwa [List.append_nil] at this
  · intro b y pos del ins r h last h1 h2; exact h last h1 h2
  · intro a x pos del ins r h last h1 h2; exact h last h1 (by simp at h2 ⊢; omega)
  · intro a x y pos del ins r h last h1 h2
    exact right_emit n last pos del ins r h1 (by simp at h2; omega) (fun l' hl => h l' (by omega) (by simp at h2 ⊢; omega))
  · intro a b x y pos del ins r hab hl h last h1 h2; exact h last h1 (by simp at h2 ⊢; omega)
  · intro a b x y pos del ins r hab hl h last h1 h2; exact h last h1 h2

/-- what lines become, from line 'at' on -/
def play (a : Ls) : Nat → List Ed → Ls
  | at_, [] => a.drop at_
  | at_, e :: l => (a.drop at_).take (e.pos.toNat - at_) ++ e.ins ++ play a (e.pos.toNat + e.del.toNat) l
theorem drop_split {α : Type} (a : List α) (i j : Nat) (h : i ≤ j) : a.drop i = (a.drop i).take (j - i) ++ a.drop j := by
  conv => lhs; rw [← List.take_append_drop (j - i) (a.drop i)]
  rw [List.drop_drop]
  congr 2
  omega
theorem play_go (a s : Ls) (x y : Ls) (pos del : Nat) (ins : Ls) (at_ : Nat) (h1 : at_ ≤ pos) (h2 : a.drop (pos + del) = x ++ s) :
    play a at_ (go x y pos del ins) = (a.drop at_).take (pos - at_) ++ ins ++ y ++ s := by
  refine go_ind (fun x y pos del ins r => ∀ at_ : Nat, at_ ≤ pos → a.drop (pos + del) = x ++ s → play a at_ r = (a.drop at_).take (pos - at_) ++ ins ++ y ++ s) ?_ ?_ ?_ ?_ ?_ ?_ _ x y pos del ins (Nat.le_refl _) at_ h1 h2
  · intro pos del ins at_ h1 h2
    unfold emit
    split
    · rename_i h
      rw [h.1, Nat.add_zero, List.nil_append] at h2
      rw [h.2, play]
      simp only [List.append_nil]
      rw [← h2]
      exact drop_split a at_ pos h1
    · simp only [play, Int.toNat_natCast, List.append_nil]
      rw [h2]; simp
  · intro b y pos del ins r h at_ h1 h2
    rw [h at_ h1 h2]; simp
  · intro a' x pos del ins r h at_ h1 h2
    refine h at_ h1 ?_
    rw [show pos + (del + 1) = pos + del + 1 from by omega, ← List.drop_drop, h2]
    rfl
  · intro c x y pos del ins r h at_ h1 h2
    have h3 : a.drop (pos + del + 1) = x ++ s := by rw [← List.drop_drop, h2]; rfl
    have h4 : (a.drop (pos + del)).take 1 = [c] := by rw [h2]; simp
    unfold emit
    split
    · rename_i hd
      rw [List.nil_append, h at_ (by omega) (by simpa using h3), hd.1, hd.2]
      have h5 : pos + 0 + 1 - at_ = pos - at_ + 1 := by omega
      rw [h5, List.take_add_one, List.getElem?_drop]
      rw [hd.1, Nat.add_zero] at h2
      have h6 : a[at_ + (pos - at_)]? = some c := by
        rw [show at_ + (pos - at_) = pos + 0 from by omega, ← List.getElem?_drop, h2]
        rfl
      rw [h6]
      simp
    · simp only [List.singleton_append, play, Int.toNat_natCast]
      rw [h (pos + del) (by omega) (by simpa using h3), show pos + del + 1 - (pos + del) = 1 from by omega, h4]
      simp
  · intro c b x y pos del ins r hab hl h at_ h1 h2
    refine h at_ h1 ?_
    rw [show pos + (del + 1) = pos + del + 1 from by omega, ← List.drop_drop, h2]
    rfl
  · intro c b x y pos del ins r hab hl h at_ h1 h2
    rw [h at_ h1 h2]; simp

/-- the edits back -/
def turn (a : Ls) : Int → List Ed → List Ed
  | _, [] => []
  | more, e :: l => ⟨e.pos + more, e.ins.length, (a.drop e.pos.toNat).take e.del.toNat⟩ :: turn a (more + e.ins.length - e.del) l
/-- what is known of right edits' first one -/
theorem right_head {n : Nat} {last : Int} {e : Ed} {l : List Ed} (h : right n last (e :: l) = true) (hl : -1 ≤ last) :
    ∃ p d : Nat, e.pos = p ∧ e.del = d ∧ p + d ≤ n ∧ last < p ∧ (d ≠ 0 ∨ e.ins ≠ []) ∧ right n ((p + d : Nat) : Int) l = true := by
  obtain ⟨⟨h1, h2, h3, h4, h5⟩, h6⟩ := (right_cons _ _ _ _).1 h
  obtain ⟨p, hp⟩ := Int.eq_ofNat_of_zero_le (show 0 ≤ e.pos by omega)
  obtain ⟨d, hd⟩ := Int.eq_ofNat_of_zero_le h1
  rw [hp, hd] at h6
  refine ⟨p, d, hp, hd, by omega, by omega, ?_, by rw [Int.natCast_add]; exact h6⟩
  rcases h2 with h2 | h2
  · exact .inl (by omega)
  · exact .inr h2
theorem play_turn (a : Ls) : ∀ (l : List Ed) (at_ : Nat) (last : Int) (pre : Ls) (F : Nat) (more : Int), -1 ≤ last → at_ ≤ last + 1 → right a.length last l = true → pre.length = F → (F : Int) = at_ + more →
    play (pre ++ play a at_ l) F (turn a more l) = a.drop at_
  | [], at_, last, pre, F, more, _, _, _, hp, _ => by
    subst hp
    simp [turn, play]
  | e :: l, at_, last, pre, F, more, h1, h2, hr, hp, hF => by
    obtain ⟨p, d, ep, ed, hpd, hlp, _, hr'⟩ := right_head hr h1
    have hat : at_ ≤ p := by omega
    rw [turn, play, play]
    simp only [ep, ed, Int.toNat_natCast]
    have e1 : ((p : Int) + more).toNat = F + (p - at_) := by omega
    rw [e1]
    have hlen : ((a.drop at_).take (p - at_)).length = p - at_ := by rw [List.length_take, List.length_drop]; omega
    have ih := play_turn a l (p + d) ((p + d : Nat) : Int) (pre ++ ((a.drop at_).take (p - at_) ++ e.ins)) (F + (p - at_) + e.ins.length) (more + e.ins.length - d) (by omega) (by omega) hr'
      (by rw [List.length_append, List.length_append, hlen, hp]; omega) (by omega)
    rw [List.append_assoc] at ih
    rw [ih, show F + (p - at_) - F = p - at_ from by omega, List.drop_left' hp]
    have e2 : ((a.drop at_).take (p - at_) ++ e.ins ++ play a (p + d) l).take (p - at_) = (a.drop at_).take (p - at_) := by
      rw [List.append_assoc, List.take_left' hlen]
    rw [e2, List.append_assoc, show a.drop (p + d) = a.drop (p + d) from rfl]
    have e3 : (a.drop p).take d ++ a.drop (p + d) = a.drop p := by
      have := drop_split a p (p + d) (by omega)
      rw [show p + d - p = d from by omega] at this
      exact this.symm
    rw [e3]
    exact (drop_split a at_ p hat).symm
theorem right_turn (a : Ls) : ∀ (l : List Ed) (at_ : Nat) (last more : Int) (n : Nat), -1 ≤ last → at_ ≤ last + 1 → right a.length last l = true → (n : Int) = (play a at_ l).length + at_ + more → right n (last + more) (turn a more l) = true
  | [], _, _, _, _, _, _, _, _ => rfl
  | e :: l, at_, last, more, n, h1, h2, hr, hn => by
    obtain ⟨p, d, ep, ed, hpd, hlp, hne, hr'⟩ := right_head hr h1
    rw [play] at hn
    simp only [ep, ed, Int.toNat_natCast, List.length_append, List.length_take, List.length_drop] at hn
    have ih := right_turn a l (p + d) ((p + d : Nat) : Int) (more + e.ins.length - d) n (by omega) (by omega) hr' (by omega)
    rw [turn, right_cons]
    simp only [ep, ed, Int.toNat_natCast]
    refine ⟨⟨by omega, ?_, by omega, by omega, by omega⟩, ?_⟩
    · rcases hne with h | h
      · right
        intro he
        have := congrArg List.length he
        rw [List.length_take, List.length_drop] at this
        simp at this
        omega
      · left
        have := List.length_pos_iff.2 h
        omega
    · have e1 : (p : Int) + more + e.ins.length = ((p + d : Nat) : Int) + (more + e.ins.length - d) := by omega
      rw [e1]; exact ih
theorem size_turn (a : Ls) : ∀ (l : List Ed) (last more : Int), -1 ≤ last → right a.length last l = true → size (turn a more l) = size l
  | [], _, _, _, _ => rfl
  | e :: l, last, more, h1, hr => by
    obtain ⟨p, d, ep, ed, hpd, hlp, hne, hr'⟩ := right_head hr h1
    rw [turn, size, size, size_turn a l ((p + d : Nat) : Int) _ (by omega) hr']
    simp only [ep, ed, Int.toNat_natCast, List.length_take, List.length_drop]
    omega
end Go.Proofs.Yteehbpnbephojaa.Df
