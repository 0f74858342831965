/-
  A disk, on lists alone: what it has, what is done with it, and what is told. No program is named here.
-/
import Derived.ProofKit
namespace Go.Proofs.Ytahcokfoifdlmaa.Dk

/-- a disk: its bytes, its room, its fuse (-1: none), whether it is dead -/
structure St where
  k : List UInt8
  room : Nat
  fuse : Int
  dead : Bool
structure Op where
  kind : Nat
  b : List UInt8
  n : Int
def St.fit (s : St) : Prop := s.k.length ≤ s.room ∧ s.room ≤ 16777216 ∧ -1 ≤ s.fuse ∧ s.fuse ≤ 9223372036854775807
def new (room : Nat) : St := ⟨[], room, -1, false⟩
def put (s : St) (b : List UInt8) : St × Nat :=
  if s.dead = true then (s, 9)
  else if s.room < s.k.length + b.length then (s, 8)
  else if s.fuse ≠ -1 ∧ s.fuse < (b.length : Int) then (⟨s.k ++ b.take s.fuse.toNat, s.room, -1, true⟩, 9)
  else (⟨s.k ++ b, s.room, if s.fuse = -1 then -1 else s.fuse - (b.length : Int), false⟩, 0)
def cut (s : St) (n : Int) : St × Nat :=
  if s.dead = true then (s, 9) else if n < 0 ∨ (s.k.length : Int) < n then (s, 1) else (⟨s.k.take n.toNat, s.room, s.fuse, false⟩, 0)
def fused (s : St) (n : Int) : St := ⟨s.k, s.room, if n < -1 then -1 else n, s.dead⟩
def begun (s : St) : St := ⟨s.k, s.room, -1, false⟩
def step (s : St) (o : Op) : St × Nat :=
  if o.kind = 0 then put s o.b else if o.kind = 1 then cut s o.n else if o.kind = 2 then (fused s o.n, 0) else if o.kind = 3 then (begun s, 0) else (s, 0)
def run (s : St) (l : List Op) : St := l.foldl (fun s o => (step s o).1) s
def Op.small (o : Op) : Prop := -9223372036854775808 ≤ o.n ∧ o.n ≤ 9223372036854775807
def few (l : List Op) : Bool := l.all (fun o => decide (o.b.length ≤ 40)) && decide (l.length ≤ 40)
theorem few_is {l : List Op} (h : few l = true) : l.length ≤ 40 ∧ ∀ o ∈ l, o.b.length ≤ 40 := by
  simp only [few, Bool.and_eq_true, List.all_eq_true, decide_eq_true_eq] at h
  exact ⟨h.2, h.1⟩

theorem new_fit {n : Nat} (h : n ≤ 16777216) : (new n).fit := ⟨Nat.zero_le _, h, by simp [new], by simp [new]⟩
theorem put_fit {s : St} {b : List UInt8} (h : s.fit) : (put s b).1.fit := by
  obtain ⟨h1, h2, h3, h4⟩ := h
  unfold put
  split
  · exact ⟨h1, h2, h3, h4⟩
  · split
    · exact ⟨h1, h2, h3, h4⟩
    · split
      · refine ⟨?_, h2, by simp, by simp⟩
        simp only [List.length_append, List.length_take]
        omega
      · refine ⟨?_, h2, ?_, ?_⟩
        · simp only [List.length_append]; omega
        · simp only []; split <;> omega
        · simp only []; split <;> omega
theorem cut_fit {s : St} {n : Int} (h : s.fit) : (cut s n).1.fit := by
  obtain ⟨h1, h2, h3, h4⟩ := h
  unfold cut
  split
  · exact ⟨h1, h2, h3, h4⟩
  · split
    · exact ⟨h1, h2, h3, h4⟩
    · refine ⟨?_, h2, h3, h4⟩
      simp only [List.length_take]
      omega
theorem fused_fit {s : St} {n : Int} (h : s.fit) (hn : n ≤ 9223372036854775807) : (fused s n).fit := by
  obtain ⟨h1, h2, h3, h4⟩ := h
  refine ⟨h1, h2, ?_, ?_⟩ <;> (simp only [fused]; split <;> omega)
theorem begun_fit {s : St} (h : s.fit) : (begun s).fit := ⟨h.1, h.2.1, by simp [begun], by simp [begun]⟩
theorem step_fit {s : St} {o : Op} (h : s.fit) (ho : o.small) : (step s o).1.fit := by
  unfold step
  split
  · exact put_fit h
  · split
    · exact cut_fit h
    · split
      · exact fused_fit h ho.2
      · split
        · exact begun_fit h
        · exact h
theorem put_room (s : St) (b : List UInt8) : (put s b).1.room = s.room := by
  unfold put; split
  · rfl
  · split
    · rfl
    · split <;> rfl
theorem step_room (s : St) (o : Op) : (step s o).1.room = s.room := by
  unfold step
  split
  · exact put_room s o.b
  · split
    · unfold cut; split
      · rfl
      · split <;> rfl
    · split
      · rfl
      · split <;> rfl
theorem run_snoc (s : St) (l : List Op) (o : Op) : run s (l ++ [o]) = (step (run s l) o).1 := by simp [run]
theorem run_fit {s : St} (h : s.fit) : ∀ (l : List Op), (∀ o ∈ l, o.small) → (run s l).fit := by
  intro l
  induction l generalizing s with
  | nil => intro _; exact h
  | cons o r ih => intro hl; exact ih (step_fit h (hl o (by simp))) fun x hx => hl x (by simp [hx])
theorem run_room (s : St) (l : List Op) : (run s l).room = s.room := by
  induction l generalizing s with
  | nil => rfl
  | cons o r ih => exact (ih _).trans (step_room s o)
/-- of a disk who appends is told that it is dead just if it is -/
theorem put_dead (s : St) (b : List UInt8) : decide ((put s b).2 = 9) = (put s b).1.dead := by
  unfold put
  by_cases h : s.dead = true
  · rw [if_pos h]; simp [h]
  · have h' : s.dead = false := by simpa using h
    rw [if_neg h]
    split
    · simp [h']
    · split <;> simp
theorem take_step (l : List Op) (i : Nat) (h : i < l.length) (s : St) : run s (l.take (i + 1)) = (step (run s (l.take i)) (l.getD i ⟨0, [], 0⟩)).1 := by
  rw [← run_snoc]
  congr 1
  rw [List.take_add_one, List.getElem?_eq_getElem h]
  simp [List.getD_eq_getElem?_getD, List.getElem?_eq_getElem h]

/-! ### The reference's disk -/
structure Rt where
  k : List UInt8
  room : Nat
  has : Bool
  fuse : Int
  dead : Bool
def rput (r : Rt) (b : List UInt8) : Rt × Nat :=
  if r.dead = true then (r, 9)
  else if r.room < r.k.length + b.length then (r, 8)
  else if r.has = true ∧ r.fuse < (b.length : Int) then (⟨r.k ++ b.take r.fuse.toNat, r.room, false, 0, true⟩, 9)
  else (⟨r.k ++ b, r.room, r.has, if r.has = true then r.fuse - (b.length : Int) else r.fuse, false⟩, 0)
def rcut (r : Rt) (n : Int) : Rt × Nat :=
  if r.dead = true then (r, 9) else if n < 0 ∨ (r.k.length : Int) < n then (r, 1) else (⟨r.k.take n.toNat, r.room, r.has, r.fuse, false⟩, 0)
def rfused (r : Rt) (n : Int) : Rt := ⟨r.k, r.room, decide (0 ≤ n), if 0 < n then n else 0, r.dead⟩
def rbegun (r : Rt) : Rt := ⟨r.k, r.room, false, r.fuse, false⟩
def rstep (r : Rt) (o : Op) : Rt × Nat :=
  if o.kind = 0 then rput r o.b else if o.kind = 1 then rcut r o.n else if o.kind = 2 then (rfused r o.n, 0) else if o.kind = 3 then (rbegun r, 0) else (r, 0)
def Rt.fit (r : Rt) : Prop := r.k.length ≤ r.room ∧ r.room ≤ 16777216 ∧ 0 ≤ r.fuse ∧ r.fuse ≤ 9223372036854775807
structure Rel (s : St) (r : Rt) : Prop where
  k : r.k = s.k
  room : r.room = s.room
  dead : r.dead = s.dead
  has : r.has = decide (s.fuse ≠ -1)
  fuse : r.has = true → r.fuse = s.fuse
  low : 0 ≤ r.fuse
  high : r.fuse ≤ 9223372036854775807
theorem Rel.fits {s : St} {r : Rt} (h : Rel s r) (hs : s.fit) : r.fit := ⟨by rw [h.k, h.room]; exact hs.1, by rw [h.room]; exact hs.2.1, h.low, h.high⟩
theorem Rel.new (n : Nat) : Rel (new n) ⟨[], n, false, 0, false⟩ := ⟨rfl, rfl, rfl, by simp [Dk.new], by simp, by simp, by simp⟩
theorem Rel.put {s : St} {r : Rt} (h : Rel s r) (hs : s.fit) (b : List UInt8) : Rel (put s b).1 (rput r b).1 ∧ (put s b).2 = (rput r b).2 := by
  obtain ⟨_, _, f1, f2⟩ := hs
  obtain ⟨k, room, fuse, dead⟩ := s
  obtain ⟨k', room', has, fuse', dead'⟩ := r
  obtain ⟨h1, h2, h3, h4, h5, h6, h7⟩ := h
  simp only at h1 h2 h3 h4 h5 h6 h7 f1 f2
  subst h1 h2 h3 h4
  unfold Dk.put rput
  simp only []
  by_cases a : dead' = true
  · rw [if_pos a, if_pos a]
    exact ⟨⟨rfl, rfl, rfl, rfl, h5, h6, h7⟩, rfl⟩
  · rw [if_neg a, if_neg a]
    by_cases c : room' < k'.length + b.length
    · rw [if_pos c, if_pos c]
      exact ⟨⟨rfl, rfl, rfl, rfl, h5, h6, h7⟩, rfl⟩
    · rw [if_neg c, if_neg c]
      by_cases e : fuse = -1
      · subst e
        have e3 : decide ((-1 : Int) ≠ -1) = false := by decide
        rw [e3]
        rw [if_neg (show ¬ ((-1 : Int) ≠ -1 ∧ (-1 : Int) < (b.length : Int)) from fun x => x.1 rfl), if_neg (show ¬ (false = true ∧ fuse' < (b.length : Int)) from fun x => Bool.noConfusion x.1), if_pos rfl, if_neg Bool.noConfusion]
        exact ⟨⟨rfl, rfl, rfl, e3.symm, fun x => Bool.noConfusion x, h6, h7⟩, rfl⟩
      · have e2 : decide (fuse ≠ -1) = true := by simpa using e
        have h8 := h5 e2
        subst h8
        rw [e2]
        by_cases g : fuse' < (b.length : Int)
        · rw [if_pos (show fuse' ≠ -1 ∧ fuse' < (b.length : Int) from ⟨e, g⟩), if_pos (show true = true ∧ fuse' < (b.length : Int) from ⟨rfl, g⟩)]
          exact ⟨⟨rfl, rfl, rfl, by simp, by simp, by simp, by simp⟩, rfl⟩
        · rw [if_neg (show ¬ (fuse' ≠ -1 ∧ fuse' < (b.length : Int)) from fun x => g x.2), if_neg (show ¬ (true = true ∧ fuse' < (b.length : Int)) from fun x => g x.2), if_neg e, if_pos (show true = true from rfl)]
          exact ⟨⟨rfl, rfl, rfl, by simp; omega, by simp, by simp only []; omega, by simp only []; omega⟩, rfl⟩
theorem Rel.step {s : St} {r : Rt} (h : Rel s r) (hs : s.fit) (o : Op) (ho : o.small) : Rel (step s o).1 (rstep r o).1 ∧ (step s o).2 = (rstep r o).2 := by
  unfold Dk.step rstep
  split
  · exact h.put hs o.b
  · split
    · unfold cut rcut
      obtain ⟨k, room, fuse, dead⟩ := s
      obtain ⟨k', room', has, fuse', dead'⟩ := r
      obtain ⟨h1, h2, h3, h4, h5, h6, h7⟩ := h
      simp only at h1 h2 h3 h4 h5 h6 h7
      subst h1 h2 h3 h4
      simp only []
      split
      · exact ⟨⟨rfl, rfl, rfl, rfl, h5, h6, h7⟩, rfl⟩
      · split
        · exact ⟨⟨rfl, rfl, rfl, rfl, h5, h6, h7⟩, rfl⟩
        · exact ⟨⟨rfl, rfl, rfl, rfl, h5, h6, h7⟩, rfl⟩
    · split
      · refine ⟨⟨h.k, h.room, h.dead, ?_, ?_, ?_, ?_⟩, rfl⟩
        · show decide (0 ≤ o.n) = decide ((if o.n < -1 then -1 else o.n) ≠ -1)
          by_cases h0 : o.n < -1
          · rw [if_pos h0, decide_eq_false (show ¬ 0 ≤ o.n by omega)]; rfl
          · rw [if_neg h0]
            by_cases h1 : 0 ≤ o.n
            · rw [decide_eq_true h1, decide_eq_true (show o.n ≠ -1 by omega)]
            · rw [decide_eq_false h1, decide_eq_false (show ¬ o.n ≠ -1 by omega)]
        · simp only [rfused, fused, decide_eq_true_eq]
          intro h0
          rw [if_neg (by omega : ¬ o.n < -1)]
          split <;> omega
        · simp only [rfused]; split <;> omega
        · have := ho.2
          simp only [rfused]; split <;> omega
      · split
        · exact ⟨⟨h.k, h.room, rfl, by simp [rbegun, begun], by simp [rbegun], h.low, h.high⟩, rfl⟩
        · exact ⟨h, rfl⟩
def rrun (r : Rt) (l : List Op) : Rt := l.foldl (fun r o => (rstep r o).1) r
theorem rtake_step (l : List Op) (i : Nat) (h : i < l.length) (r : Rt) : rrun r (l.take (i + 1)) = (rstep (rrun r (l.take i)) (l.getD i ⟨0, [], 0⟩)).1 := by
  rw [List.take_add_one, List.getElem?_eq_getElem h, show l.getD i ⟨0, [], 0⟩ = l[i] from by simp [List.getD_eq_getElem?_getD, List.getElem?_eq_getElem h]]
  unfold rrun
  rw [List.foldl_append]
  rfl
theorem Rel.run {s : St} {r : Rt} (h : Rel s r) (hs : s.fit) : ∀ (l : List Op), (∀ o ∈ l, o.small) → Rel (run s l) (rrun r l) := by
  intro l
  induction l generalizing s r with
  | nil => intro _; exact h
  | cons o t ih => intro hl; exact ih (h.step hs o (hl o (by simp))).1 (step_fit hs (hl o (by simp))) fun x hx => hl x (by simp [hx])
/-! ### What the laws say -/
/-- P13.4: behind a start, with a fuse -/
theorem tears (s : St) (b : List UInt8) (f : Nat) :
    (put (fused (begun s) f) b) = if s.room < s.k.length + b.length then (⟨s.k, s.room, f, false⟩, 8) else if f < b.length then (⟨s.k ++ b.take f, s.room, -1, true⟩, 9) else (⟨s.k ++ b, s.room, (f : Int) - b.length, false⟩, 0) := by
  unfold put fused begun
  simp only []
  rw [if_neg (by simp), if_neg (show ¬ (f : Int) < -1 by omega)]
  split
  · rfl
  · by_cases h : f < b.length
    · rw [if_pos h, if_pos ⟨by omega, by omega⟩]; simp
    · rw [if_neg h, if_neg (fun x => h (by omega)), if_neg (show ¬ (f : Int) = -1 by omega)]
/-- P13.2: no fuse -/
theorem put_plain (k b : List UInt8) (n : Nat) : put ⟨k, n, -1, false⟩ b = if n < k.length + b.length then (⟨k, n, -1, false⟩, 8) else (⟨k ++ b, n, -1, false⟩, 0) := by
  unfold put
  simp only []
  rw [if_neg (by simp)]
  split
  · rfl
  · rw [if_neg (show ¬ ((-1 : Int) ≠ -1 ∧ (-1 : Int) < (b.length : Int)) from fun x => x.1 rfl), if_pos trivial]
end Go.Proofs.Ytahcokfoifdlmaa.Dk
