/-
  A store's records, on lists alone: what they are, how they are read, what is torn. No program is named here.
-/
import Derived.Test.YtcmjdepjckhpdabDoorQWS
import Derived.Test.YtcmjdepjckhpdabDoorQSha
namespace Go.Proofs.YtcmjdepjckhpdabDoor.So
open Wr Sha

abbrev Bs := List UInt8
/-- an object on the disk -/
def record (b : Bs) : Bs := form b.length ++ b ++ (sha b).take 4
inductive Rd where
  | torn
  | bad (e : Nat)
  | got (b : Bs) (k : Nat)
/-- the record at the front -/
def rdOne (bs : Bs) : Rd :=
  if (numOf bs).2.2 = 2 then .torn
  else if (numOf bs).2.2 ≠ 0 then .bad (numOf bs).2.2
  else if 131072 < (numOf bs).1 then .bad 4
  else if bs.length - (numOf bs).2.1 < (numOf bs).1 + 4 then .torn
  else if (sha ((bs.drop (numOf bs).2.1).take (numOf bs).1)).take 4 = (bs.drop ((numOf bs).2.1 + (numOf bs).1)).take 4 then .got ((bs.drop (numOf bs).2.1).take (numOf bs).1) ((numOf bs).2.1 + (numOf bs).1 + 4)
  else .bad 12
def opn : Nat → List Bs → Bs → Nat → Nat × List Bs × Nat
  | 0, L, _, at_ => (0, L, at_)
  | f + 1, L, bs, at_ => if bs = [] then (0, L, at_) else match rdOne bs with
    | .torn => (0, L, at_)
    | .bad e => (e, [], 0)
    | .got b k => if sha b ∈ L.map sha then (3, [], 0) else opn f (L ++ [b]) (bs.drop k) (at_ + k)
/-- what bytes are opened as, with these objects ahead: why not, or the objects, and how many bytes stay -/
def op (L : List Bs) (bs : Bs) (at_ : Nat) : Nat × List Bs × Nat := opn bs.length L bs at_
theorem got_size {bs b : Bs} {k : Nat} (h : rdOne bs = .got b k) : 5 ≤ k ∧ k ≤ bs.length ∧ b.length ≤ 131072 ∧ k = (numOf bs).2.1 + b.length + 4 ∧ b = (bs.drop (numOf bs).2.1).take b.length := by
  unfold rdOne at h
  split at h
  · cases h
  · split at h
    · cases h
    · next h0 =>
      have h0 : (numOf bs).2.2 = 0 := Decidable.of_not_not h0
      obtain ⟨_, h1, _, h3, _⟩ := numOf_ok bs (numOf bs).1 (numOf bs).2.1 (by rw [← h0])
      split at h
      · cases h
      · next h4 =>
        split at h
        · cases h
        · next h5 =>
          split at h
          · injection h with e1 e2
            have hl : ((bs.drop (numOf bs).2.1).take (numOf bs).1).length = (numOf bs).1 := by rw [List.length_take, List.length_drop]; omega
            subst e1 e2
            rw [hl]
            exact ⟨by omega, by omega, by omega, rfl, rfl⟩
          · cases h
theorem opn_fuel : ∀ (f g : Nat) (L : List Bs) (bs : Bs) (a : Nat), bs.length ≤ f → bs.length ≤ g → opn f L bs a = opn g L bs a
  | 0, 0, _, _, _, _, _ => rfl
  | 0, g + 1, L, bs, a, h, _ => by
    have e : bs = [] := List.eq_nil_of_length_eq_zero (by omega)
    rw [opn, opn, if_pos e]
  | f + 1, 0, L, bs, a, _, h => by
    have e : bs = [] := List.eq_nil_of_length_eq_zero (by omega)
    rw [opn, opn, if_pos e]
  | f + 1, g + 1, L, bs, a, h1, h2 => by
    rw [opn, opn]
    split
    · rfl
    · next hne =>
      split
      · rfl
      · rfl
      · next b k hg =>
        split
        · rfl
        · obtain ⟨q1, q2, _⟩ := got_size hg
          exact opn_fuel f g _ _ _ (by rw [List.length_drop]; omega) (by rw [List.length_drop]; omega)
theorem op_nil (L : List Bs) (a : Nat) : op L [] a = (0, L, a) := rfl
theorem op_eq (L : List Bs) (bs : Bs) (a : Nat) (h : bs ≠ []) : op L bs a = match rdOne bs with
    | .torn => (0, L, a)
    | .bad e => (e, [], 0)
    | .got b k => if sha b ∈ L.map sha then (3, [], 0) else op (L ++ [b]) (bs.drop k) (a + k) := by
  have hl : 0 < bs.length := List.length_pos_iff.2 h
  unfold op
  obtain ⟨n, hn⟩ : ∃ n, bs.length = n + 1 := ⟨bs.length - 1, by omega⟩
  rw [hn, opn, if_neg h]
  split
  · rfl
  · rfl
  · next b k hg =>
    split
    · rfl
    · obtain ⟨q1, q2, _⟩ := got_size hg
      exact opn_fuel _ _ _ _ _ (by rw [List.length_drop]; omega) (by rw [List.length_drop]; exact Nat.le_refl _)
theorem op_torn {L : List Bs} {bs : Bs} {a : Nat} (h : rdOne bs = .torn) : op L bs a = (0, L, a) := by
  by_cases e : bs = []
  · subst e; rfl
  · rw [op_eq L bs a e, h]
theorem op_bad {L : List Bs} {bs : Bs} {a e : Nat} (hn : bs ≠ []) (h : rdOne bs = .bad e) : op L bs a = (e, [], 0) := by rw [op_eq L bs a hn, h]
theorem op_dup {L : List Bs} {bs b : Bs} {a k : Nat} (hn : bs ≠ []) (h : rdOne bs = .got b k) (hm : sha b ∈ L.map sha) : op L bs a = (3, [], 0) := by
  rw [op_eq L bs a hn, h]; exact if_pos hm
theorem op_got {L : List Bs} {bs b : Bs} {a k : Nat} (hn : bs ≠ []) (h : rdOne bs = .got b k) (hm : ¬ sha b ∈ L.map sha) : op L bs a = op (L ++ [b]) (bs.drop k) (a + k) := by
  rw [op_eq L bs a hn, h]; exact if_neg hm

theorem sum_len (b : Bs) : ((sha b).take 4).length = 4 := by rw [List.length_take, sha_len]; rfl
theorem record_len (b : Bs) : (record b).length = (form b.length).length + b.length + 4 := by
  unfold record
  rw [List.length_append, List.length_append, sum_len]
theorem record_pos (b : Bs) : 0 < (record b).length := by rw [record_len]; omega
theorem rd_rec (b rest : Bs) (h : b.length ≤ 131072) : rdOne (record b ++ rest) = .got b (record b).length := by
  have e : record b ++ rest = form b.length ++ (b ++ ((sha b).take 4 ++ rest)) := by unfold record; simp only [List.append_assoc]
  have hn := numOf_form b.length (b ++ ((sha b).take 4 ++ rest)) (by omega)
  have hd : (form b.length ++ (b ++ ((sha b).take 4 ++ rest))).drop (form b.length).length = b ++ ((sha b).take 4 ++ rest) := List.drop_left
  unfold rdOne
  rw [e, hn]
  simp only []
  rw [if_neg (by decide), if_neg (by decide), if_neg (by omega), if_neg (by simp only [List.length_append, sum_len]; omega), ← List.drop_drop, hd, List.take_left, List.drop_left]
  have h4 : ((sha b).take 4 ++ rest).take 4 = (sha b).take 4 := by
    have : ((sha b).take 4 ++ rest).take ((sha b).take 4).length = (sha b).take 4 := List.take_left
    rwa [sum_len] at this
  rw [h4, if_pos rfl, record_len]
theorem numOf_front (n j : Nat) (h : j < (form n).length) (hn : n ≤ 131072) : (numOf ((form n).take j)).2.2 = 2 := by
  have hs := form_short n 3 (by omega) (by omega)
  have hl := form_lead n
  have hlen : ((form n).take j).length = j := by rw [List.length_take]; omega
  have hld : lead ((form n).take j) = j := by
    have := lead_all ((form n).take j) fun i hi => by
      rw [hlen] at hi
      rw [take_getD _ _ _ hi]
      exact lead_at _ i (by omega)
    rw [this, hlen]
  unfold numOf
  rw [hld, if_neg (by omega), if_pos hlen.symm]
/-- a front of a record is torn -/
theorem rd_front (b : Bs) (j : Nat) (h : j < (record b).length) (hb : b.length ≤ 131072) : rdOne ((record b).take j) = .torn := by
  have hlen : ((record b).take j).length = j := by rw [List.length_take]; omega
  unfold rdOne
  by_cases hj : j < (form b.length).length
  · have e : (record b).take j = (form b.length).take j := by
      unfold record
      rw [List.append_assoc, List.take_append_of_le_length (by omega)]
    rw [e, if_pos (numOf_front _ _ hj hb)]
  · have e : (record b).take j = form b.length ++ (b ++ (sha b).take 4).take (j - (form b.length).length) := by
      unfold record
      rw [List.append_assoc, List.take_append, List.take_of_length_le (by omega)]
    have hn := numOf_form b.length ((b ++ (sha b).take 4).take (j - (form b.length).length)) (by omega)
    rw [← e] at hn
    have hr := record_len b
    rw [hn]
    simp only []
    rw [if_neg (by decide), if_neg (by decide), if_neg (by omega), if_pos (by rw [hlen]; omega)]
def recs (L : List Bs) : Bs := L.flatMap record
theorem recs_snoc (L : List Bs) (b : Bs) : recs (L ++ [b]) = recs L ++ record b := by unfold recs; rw [List.flatMap_append]; simp
theorem op_recs : ∀ (M L : List Bs) (tail : Bs) (a : Nat), (∀ b ∈ M, b.length ≤ 131072) → ((L ++ M).map sha).Nodup → op L (recs M ++ tail) a = op (L ++ M) tail (a + (recs M).length)
  | [], L, tail, a, _, _ => by simp [recs]
  | b :: M, L, tail, a, h, hd => by
    have e : recs (b :: M) ++ tail = record b ++ (recs M ++ tail) := by unfold recs; rw [List.flatMap_cons, List.append_assoc]
    have hne : record b ++ (recs M ++ tail) ≠ [] := fun x => by have h1 := record_pos b; rw [(List.append_eq_nil_iff.1 x).1] at h1; exact Nat.lt_irrefl _ h1
    have hnm : ¬ sha b ∈ L.map sha := by
      rw [List.map_append, List.map_cons] at hd
      intro hm
      have := (List.nodup_append.1 hd).2.2 _ hm _ List.mem_cons_self
      exact this rfl
    have hd' : (((L ++ [b]) ++ M).map sha).Nodup := by rw [List.append_assoc]; exact hd
    rw [e, op_got hne (rd_rec b _ (h b (by simp))) hnm, List.drop_left, op_recs M (L ++ [b]) tail _ (fun x hx => h x (by simp [hx])) hd']
    have hl : (recs (b :: M)).length = (record b).length + (recs M).length := by unfold recs; rw [List.flatMap_cons, List.length_append]
    rw [hl, List.append_assoc]
    simp only [List.singleton_append, Nat.add_assoc]
/-- what may stand behind the records: a front of one more -/
def Torn (t : Bs) : Prop := ∃ b j, b.length ≤ 131072 ∧ j < (record b).length ∧ t = (record b).take j
theorem Torn.nil : Torn [] := ⟨[], 0, by simp, record_pos _, rfl⟩
theorem op_front {L : List Bs} {t : Bs} (h : Torn t) (a : Nat) : op L t a = (0, L, a) := by
  obtain ⟨b, j, hb, hj, rfl⟩ := h
  exact op_torn (rd_front b j hj hb)
/-- P14.4: opened again, all objects are there, and what is torn is cut off -/
theorem op_whole {L : List Bs} {t : Bs} (h : ∀ b ∈ L, b.length ≤ 131072) (hd : (L.map sha).Nodup) (ht : Torn t) : op [] (recs L ++ t) 0 = (0, L, (recs L).length) := by
  rw [op_recs L [] t 0 h (by simpa using hd), List.nil_append, op_front ht, Nat.zero_add]
/-- a front of records is records, and a front of one more -/
theorem recs_front : ∀ (L : List Bs) (n : Nat), (∀ b ∈ L, b.length ≤ 131072) → ∃ k t, k ≤ L.length ∧ Torn t ∧ (recs L).take n = recs (L.take k) ++ t ∧ (recs (L.take k)).length ≤ n ∧ (∀ j, k < j → j ≤ L.length → n < (recs (L.take j)).length)
  | [], n, _ => ⟨0, [], Nat.le_refl _, Torn.nil, by simp [recs], by simp [recs], fun j h1 h2 => by simp at h2; omega⟩
  | b :: L, n, h => by
    have hl : ∀ M : List Bs, recs (b :: M) = record b ++ recs M := fun M => by unfold recs; rw [List.flatMap_cons]
    by_cases hn : n < (record b).length
    · refine ⟨0, (record b).take n, Nat.zero_le _, ⟨b, n, h b (by simp), hn, rfl⟩, ?_, by simp [recs], fun j h1 h2 => ?_⟩
      · rw [hl, List.take_append_of_le_length (by omega)]; simp [recs]
      · obtain ⟨i, rfl⟩ : ∃ i, j = i + 1 := ⟨j - 1, by omega⟩
        rw [List.take_succ_cons, hl, List.length_append]; omega
    · obtain ⟨k, t, h1, h2, h3, h4, h5⟩ := recs_front L (n - (record b).length) fun x hx => h x (by simp [hx])
      refine ⟨k + 1, t, by simp; omega, h2, ?_, ?_, fun j q1 q2 => ?_⟩
      · rw [List.take_succ_cons, hl, hl, List.take_append, List.take_of_length_le (by omega), h3, List.append_assoc]
      · rw [List.take_succ_cons, hl, List.length_append]; omega
      · obtain ⟨i, rfl⟩ : ∃ i, j = i + 1 := ⟨j - 1, by omega⟩
        have := h5 i (by omega) (by simp at q2; omega)
        rw [List.take_succ_cons, hl, List.length_append]; omega

/-! ### Putting -/
structure Ss where
  s : Dk.St
  L : List Bs
def put (x : Ss) (b : Bs) : Ss × Bs × Nat :=
  if 131072 < b.length then (x, [], 4)
  else if sha b ∈ x.L.map sha then (x, sha b, 0)
  else if (Dk.put x.s (record b)).2 = 0 then (⟨(Dk.put x.s (record b)).1, x.L ++ [b]⟩, sha b, 0)
  else (⟨(Dk.put x.s (record b)).1, x.L⟩, [], (Dk.put x.s (record b)).2)
/-- the disk has the objects' records, and behind them, if it is dead, a front of one more -/
structure Good (x : Ss) : Prop where
  fit : x.s.fit
  short : ∀ b ∈ x.L, b.length ≤ 131072
  once : (x.L.map sha).Nodup
  has : ∃ t, Torn t ∧ x.s.k = recs x.L ++ t ∧ (x.s.dead = false → t = [])
theorem put_fst {s : Dk.St} {b : Bs} (hf : s.fit) : (Dk.put s b).2 = 0 ∧ (Dk.put s b).1.k = s.k ++ b ∧ s.dead = false ∧ (Dk.put s b).1.dead = false ∨
    (Dk.put s b).2 ≠ 0 ∧ ((Dk.put s b).1.k = s.k ∧ (Dk.put s b).1.dead = s.dead ∨ s.dead = false ∧ ∃ j, j < b.length ∧ (Dk.put s b).1.k = s.k ++ b.take j ∧ (Dk.put s b).1.dead = true) := by
  obtain ⟨_, _, h3, _⟩ := hf
  unfold Dk.put
  by_cases hd : s.dead = true
  · rw [if_pos hd]
    exact .inr ⟨by simp, .inl ⟨rfl, rfl⟩⟩
  · have hd' : s.dead = false := by simpa using hd
    rw [if_neg hd]
    split
    · exact .inr ⟨by simp, .inl ⟨rfl, rfl⟩⟩
    · split
      · next h => exact .inr ⟨by simp, .inr ⟨hd', s.fuse.toNat, by omega, rfl, rfl⟩⟩
      · exact .inl ⟨rfl, rfl, hd', rfl⟩
theorem Good.put {x : Ss} (h : Good x) (b : Bs) : Good (put x b).1 := by
  obtain ⟨h1, h2, h3, t, h4, h5, h6⟩ := h
  unfold So.put
  split
  · exact ⟨h1, h2, h3, t, h4, h5, h6⟩
  · next hl =>
    split
    · exact ⟨h1, h2, h3, t, h4, h5, h6⟩
    · next hm =>
      have hfit := Dk.put_fit (b := record b) h1
      split
      · next he =>
        rcases put_fst (b := record b) h1 with ⟨_, q2, q3, q4⟩ | ⟨q1, _⟩
        · refine ⟨hfit, fun c hc => ?_, ?_, [], Torn.nil, ?_, fun _ => rfl⟩
          · rcases List.mem_append.1 hc with k | k
            · exact h2 c k
            · rw [List.mem_singleton.1 k]; omega
          · simp only [List.map_append, List.map_cons, List.map_nil]
            refine List.nodup_append.2 ⟨h3, by simp, fun c hc d hd e => hm ?_⟩
            rw [List.mem_singleton.1 hd] at e
            rw [← e]; exact hc
          · simp only []
            rw [q2, h5, h6 q3, List.append_nil, List.append_nil, recs_snoc]
        · exact absurd he q1
      · next he =>
        rcases put_fst (b := record b) h1 with ⟨q1, _⟩ | ⟨_, ⟨q2, q3⟩ | ⟨q2, j, q3, q4, q5⟩⟩
        · exact absurd q1 he
        · exact ⟨hfit, h2, h3, t, h4, by simp only []; rw [q2, h5], fun hd => h6 (by simp only [] at hd; rw [q3] at hd; exact hd)⟩
        · refine ⟨hfit, h2, h3, (record b).take j, ⟨b, j, by omega, q3, rfl⟩, ?_, fun hd => ?_⟩
          · simp only []
            rw [q4, h5, h6 q2, List.append_nil]
          · simp only [] at hd
            rw [q5] at hd; cases hd
end Go.Proofs.YtcmjdepjckhpdabDoor.So
