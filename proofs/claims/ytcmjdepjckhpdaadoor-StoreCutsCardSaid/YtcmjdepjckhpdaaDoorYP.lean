/-
  Stores on one disk, each opened behind the other.
-/
import Derived.Test.YtcmjdepjckhpdaaDoorYN
namespace Go.Proofs.YtcmjdepjckhpdaaDoor.So
open Go Go.RowKit Kt Kg Wr Lw Sha Dk Dg

theorem record_short {b : Bs} (hb : b.length ≤ 60) : (record b).length ≤ 65 := by
  have := record_len b
  have := form_short b.length 1 (by omega) (by omega)
  omega
theorem put_len {x : Ss} {b : Bs} (hf : x.s.fit) (hb : b.length ≤ 60) : (put x b).1.s.k.length ≤ x.s.k.length + 65 := by
  have hr := record_short hb
  have hk : (Dk.put x.s (record b)).1.k.length ≤ x.s.k.length + 65 := by
    rcases put_fst (b := record b) hf with ⟨_, h, _⟩ | ⟨_, ⟨h, _⟩ | ⟨_, j, _, h, _⟩⟩
    · rw [h, List.length_append]; omega
    · rw [h]; omega
    · rw [h, List.length_append, List.length_take]; omega
  unfold put
  split
  · exact Nat.le_add_right _ _
  · split
    · exact Nat.le_add_right _ _
    · split <;> exact hk
/-- a disk, the stores on it, and what else stays -/
structure TS (In : World → (Nat → Prop) → Nat → Nat → List Bs → Prop) (w0 W : World) (g : Nat) (s : Dk.St) (L : List Bs) (st : List Nat) (F : Nat → Prop) : Prop where
  low : Below w0.heap.size w0 W
  dk : ∃ Sd, DkIn W Sd g s ∧ (∀ k, Sd k → w0.heap.size ≤ k) ∧ (∀ gs ∈ st, ∃ S, In W S gs g L ∧ ∀ k, S k → ¬ Sd k) ∧ ∀ k, F k → k < W.heap.size ∧ ¬ Sd k
section
variable {In : World → (Nat → Prop) → Nat → Nat → List Bs → Prop} {w0 W W' : World} {g : Nat} {s : Dk.St} {L : List Bs} {st : List Nat} {F : Nat → Prop}
theorem TS.of {U : Nat → Prop} {gs : Nat} {x : Ss} (hlow : Below w0.heap.size w0 W) (h : PS In w0 W U gs g x) : TS In w0 W g x.s x.L [gs] (fun _ => False) := by
  obtain ⟨S, Sd, h1, h2, h3, h4⟩ := h
  exact ⟨hlow, Sd, h2, fun k hk => (h3 k (.inr hk)).2, fun gs' hg => ⟨S, by rw [List.mem_singleton.1 hg]; exact h1, h4⟩, fun k hk => hk.elim⟩
/-- new blocks stay, too -/
theorem TS.below (C : Ct w0 In) (h : TS In w0 W g s L st F) (hb : Below W.heap.size W W') : TS In w0 W' g s L st (fun k => F k ∨ (W.heap.size ≤ k ∧ k < W'.heap.size)) := by
  obtain ⟨h1, Sd, h2, h3, h4, h5⟩ := h
  refine ⟨h1.trans (hb.mono h1.size), Sd, h2.below hb, h3, fun gs hg => ?_, fun k hk => ?_⟩
  · obtain ⟨S, q1, q2⟩ := h4 gs hg
    exact ⟨S, C.below q1 hb, q2⟩
  · rcases hk with hk | hk
    · exact ⟨Nat.lt_of_lt_of_le (h5 k hk).1 hb.size, (h5 k hk).2⟩
    · exact ⟨hk.2, fun x => by have := h2.lt k x; omega⟩
theorem TS.imp {F' : Nat → Prop} (h : TS In w0 W g s L st F) (hi : ∀ k, F' k → F k) : TS In w0 W g s L st F' := by
  obtain ⟨h1, Sd, h2, h3, h4, h5⟩ := h
  exact ⟨h1, Sd, h2, h3, h4, fun k hk => h5 k (hi k hk)⟩
theorem TS.ids (C : Ct w0 In) (h : TS In w0 W g s L st F) {gs : Nat} (hg : gs ∈ st) (hl : L.length ≤ 1000) :
    Calls Tryd.prog 23 #[pt gs] W fun y w' => ∃ v, y = .returned v ∧ OwT w' W.heap.size tId v (L.map sha) ∧ Below W.heap.size W w' := by
  obtain ⟨h1, Sd, h2, h3, h4, h5⟩ := h
  obtain ⟨S, q1, q2⟩ := h4 gs hg
  exact C.ids h1 q1 hl
theorem TS.many (C : Ct w0 In) (h : TS In w0 W g s L st F) {gs : Nat} (hg : gs ∈ st) (hl : L.length ≤ 1000) :
    Calls Tryd.prog 27 #[pt gs] W fun y w' => y = .returned (.int .i64 (L.length : Int)) ∧ Below W.heap.size W w' := by
  obtain ⟨h1, Sd, h2, h3, h4, h5⟩ := h
  obtain ⟨S, q1, q2⟩ := h4 gs hg
  exact C.many h1 q1 hl
theorem TS.get (C : Ct w0 In) (h : TS In w0 W g s L st F) {gs : Nat} (hg : gs ∈ st) (hl : L.length ≤ 1000) (id : Bs) :
    Calls Tryd.prog 26 #[pt gs, .string ⟨id.toArray⟩] W fun y w' => ∃ v, y = .returned (.tuple #[v, .bool (got L id).isSome]) ∧ Own w' W.heap.size tU8 v ((got L id).getD []) ∧ Below W.heap.size W w' := by
  obtain ⟨h1, Sd, h2, h3, h4, h5⟩ := h
  obtain ⟨S, q1, q2⟩ := h4 gs hg
  exact C.get id h1 q1 hl
theorem TS.bytes (h : TS In w0 W g s L st F) (hf : s.fit) : Calls Tryd.prog 19 #[pt g] W fun y w' => ∃ v, y = .returned v ∧ Own w' W.heap.size tU8 v s.k ∧ Below W.heap.size W w' := by
  obtain ⟨h1, Sd, h2, h3, h4, h5⟩ := h
  exact bytes_call h2 hf
theorem TS.size (h : TS In w0 W g s L st F) : Calls Tryd.prog 28 #[pt g] W fun y w' => y = .returned (.int .i64 (s.k.length : Nat)) ∧ W = w' := by
  obtain ⟨h1, Sd, h2, h3, h4, h5⟩ := h
  exact size_any h2
/-- the disk alone is turned -/
theorem TS.turn (C : Ct w0 In) (h : TS In w0 W g s L st F) {f : Nat} {args : Array Value} {s' : Dk.St} {v : Value} (hc : ∀ Sd, DkIn W Sd g s → Calls Tryd.prog f args W fun y w' => y = .returned v ∧ ∃ S', DkIn w' S' g s' ∧ Oth Sd W w' ∧ ∀ k, S' k → Sd k ∨ W.heap.size ≤ k) :
    Calls Tryd.prog f args W fun y w' => y = .returned v ∧ TS In w0 w' g s' L st F ∧ ∀ k, F k → w'.heap[k]? = W.heap[k]? := by
  obtain ⟨h1, Sd, h2, h3, h4, h5⟩ := h
  refine (hc Sd h2).mono ?_
  rintro y w' ⟨rfl, S', q1, q2, q3⟩
  refine ⟨rfl, ⟨oth_low q2 h1 h3, S', q1, fun k hk => (q3 k hk).elim (h3 k) fun x => Nat.le_trans h1.size x, fun gs hg => ?_, fun k hk => ?_⟩, fun k hk => q2.block k (h5 k hk).1 (h5 k hk).2⟩
  · obtain ⟨S, p1, p2⟩ := h4 gs hg
    exact ⟨S, C.oth p1 q2 p2, fun k hk hd => (q3 k hd).elim (p2 k hk) fun x => by have := C.lt p1 k hk; omega⟩
  · exact ⟨Nat.lt_of_lt_of_le (h5 k hk).1 q2.size, fun hd => (q3 k hd).elim (h5 k hk).2 fun x => by have := (h5 k hk).1; omega⟩
/-- opened again -/
theorem TS.again (C : Ct w0 In) {M : List Bs} {n : Nat} (h : TS In w0 W g s L st F) (hf : s.fit) (hdead : s.dead = false) (hk : s.k.length ≤ 4000) (hop : op [] s.k 0 = (0, M, n)) :
    Calls Tryd.prog 12 #[pt g] W fun y w' => ∃ gs, y = .returned (.tuple #[pt gs, .int .i64 0]) ∧ TS In w0 w' g ⟨s.k.take n, s.room, s.fuse, false⟩ L st F ∧ TS In w0 w' g ⟨s.k.take n, s.room, s.fuse, false⟩ M [gs] F ∧ (M = L → TS In w0 w' g ⟨s.k.take n, s.room, s.fuse, false⟩ L (gs :: st) F) ∧ ∀ k, F k → w'.heap[k]? = W.heap[k]? := by
  obtain ⟨h1, Sd, h2, h3, h4, h5⟩ := h
  refine (C.opened h1 h2 hf hdead h3 hk).mono ?_
  rintro y w' (⟨q, _⟩ | ⟨_, gs, S, Sd', rfl, q1, q2, q3, q4, q5, q6⟩)
  · rw [hop] at q; exact absurd rfl q
  · rw [hop] at q1 q3
    rw [hdead] at q3
    have hlow := oth_low q4 h1 h3
    have hst : ∀ gs ∈ st, ∃ S, In w' S gs g L ∧ ∀ k, S k → ¬ Sd' k := fun gs hg => by
      obtain ⟨S, p1, p2⟩ := h4 gs hg
      exact ⟨S, C.oth p1 q4 p2, fun k hk hd => (q5 k hd).elim (p2 k hk) fun x => by have := C.lt p1 k hk; omega⟩
    have hF : ∀ k, F k → k < w'.heap.size ∧ ¬ Sd' k := fun k hk => ⟨Nat.lt_of_lt_of_le (h5 k hk).1 q4.size, fun hd => (q5 k hd).elim (h5 k hk).2 fun x => by have := (h5 k hk).1; omega⟩
    have hup : ∀ k, Sd' k → w0.heap.size ≤ k := fun k hk => (q5 k hk).elim (h3 k) fun x => Nat.le_trans h1.size x
    refine ⟨gs, rfl, ⟨hlow, Sd', q3, hup, hst, hF⟩, ⟨hlow, Sd', q3, hup, fun gs' hg => ⟨S, by rw [List.mem_singleton.1 hg]; exact q1, q6⟩, hF⟩, fun e => ⟨hlow, Sd', q3, hup, fun gs' hg => ?_, hF⟩, fun k hk => q4.block k (h5 k hk).1 (h5 k hk).2⟩
    rcases List.mem_cons.1 hg with hg | hg
    · exact ⟨S, by rw [hg, ← e]; exact q1, q6⟩
    · exact hst gs' hg
end
end Go.Proofs.YtcmjdepjckhpdaaDoor.So
