/-
  A store by itself, and two rows of texts of the law's own beside it.
-/
import Derived.Test.YtcmjdepjckhpdaaDoorYL
namespace Go.Proofs.YtcmjdepjckhpdaaDoor.So
open Go Go.RowKit Kt Kg Wr Lw Sha Dk Dg

/-- a store, what was put, and ids, each in blocks of its own -/
structure KI (In : World → (Nat → Prop) → Nat → Nat → List Bs → Prop) (w0 W : World) (gs g : Nat) (x : Ss) (v1 v2 : Value) (K ids : List Bs) : Prop where
  low : Below w0.heap.size w0 W
  ps : ∃ U, PS In w0 W U gs g x ∧ (∀ k, U k → k < W.heap.size) ∧ (∀ b, v1.ownBlock = some b → ¬ U b) ∧ ∀ b, v2.ownBlock = some b → ¬ U b
  r1 : OTS W (fun k => v1.ownBlock = some k ∧ w0.heap.size ≤ k) tS v1 K
  r2 : OTS W (fun k => v2.ownBlock = some k ∧ w0.heap.size ≤ k) tId v2 ids
section
variable {In : World → (Nat → Prop) → Nat → Nat → List Bs → Prop} {w0 W W' : World} {gs g : Nat} {x : Ss} {v1 v2 : Value} {K ids : List Bs}
theorem OTS.below {w w' : World} {S : Nat → Prop} {E : TypeId} {v : Value} {l : List Bs} (h : OTS w S E v l) (hb : Below w.heap.size w w') : OTS w' S E v l := h.move fun b _ hlt => hb.block b hlt
theorem KI.below (C : Ct w0 In) (h : KI In w0 W gs g x v1 v2 K ids) (hb : Below W.heap.size W W') : KI In w0 W' gs g x v1 v2 K ids := by
  obtain ⟨h1, ⟨U, h2, h3, h4, h5⟩, h6, h7⟩ := h
  exact ⟨h1.trans (hb.mono h1.size), ⟨U, h2.below C hb, fun k hk => Nat.lt_of_lt_of_le (h3 k hk) hb.size, h4, h5⟩, h6.below hb, h7.below hb⟩
theorem KI.start (C : Ct w0 In) {U : Nat → Prop} (hlow : Below w0.heap.size w0 W) (h : PS In w0 W U gs g x) : KI In w0 W gs g x (.slice none 0 0) (.slice none 0 0) [] [] :=
  ⟨hlow, ⟨_, h.imp (V := fun k => k < W.heap.size ∧ U k) C fun k hk hu => ⟨hk, hu⟩, fun k hk => hk.1, fun b hb => (by cases hb), fun b hb => (by cases hb)⟩, OTS.nil _ _ _, OTS.nil _ _ _⟩
/-- a text is put -/
theorem KI.put (C : Ct w0 In) (h : KI In w0 W gs g x v1 v2 K ids) (hf : x.s.fit) (b : Bs) (hb : b.length ≤ 1000) (hl : x.L.length ≤ 1000) {wa : World} {q c : Nat} (hba : Below W.heap.size W wa) (hq : W.heap.size ≤ q) (hs : Sl wa (fun z => z = q) (some ⟨q, 0, none⟩) c b) :
    Calls Tryd.prog 15 #[pt gs, .slice (some ⟨q, 0, none⟩) b.length c] wa fun y w' => y = .returned (.tuple #[.string ⟨(So.put x b).2.1.toArray⟩, .int .i64 ((So.put x b).2.2 : Int)]) ∧
      KI In w0 w' gs g (So.put x b).1 v1 v2 K ids ∧ Below w0.heap.size w0 w' := by
  have ha := h.below C hba
  obtain ⟨_, ⟨U, h2, h3, h4, h5⟩, _, _⟩ := h
  refine ((h2.below C hba).put C ha.low hf b _ _ _ hs (fun k hk hu => by have := h3 k hu; omega) hb hl).mono ?_
  rintro y w' ⟨rfl, q1, q2, q3⟩
  have hn1 : ∀ k, v1.ownBlock = some k → k < wa.heap.size ∧ ¬ U k := fun k hk => ⟨ha.r1.lt hk, h4 k hk⟩
  have hn2 : ∀ k, v2.ownBlock = some k → k < wa.heap.size ∧ ¬ U k := fun k hk => ⟨ha.r2.lt hk, h5 k hk⟩
  refine ⟨rfl, ⟨q3, ⟨fun k => k < w'.heap.size ∧ (U k ∨ wa.heap.size ≤ k), q1.imp C fun k hk hu => ⟨hk, hu⟩, fun k hk => hk.1, fun k hk hu => ?_, fun k hk hu => ?_⟩, ha.r1.move fun k hk hlt => q2.block k hlt (h4 k hk.1), ha.r2.move fun k hk hlt => q2.block k hlt (h5 k hk.1)⟩, q3⟩
  · have := hn1 k hk
    rcases hu.2 with hu | hu
    · exact this.2 hu
    · omega
  · have := hn2 k hk
    rcases hu.2 with hu | hu
    · exact this.2 hu
    · omega
theorem ki_ps (C : Ct w0 In) {r : Option Nat} (h : PS In w0 W (fun k => k < W.heap.size ∧ some k ≠ r) gs g x) (hg : W.grownBy W' r) : PS In w0 W' (fun k => k < W.heap.size ∧ some k ≠ r) gs g x :=
  h.oth C (Oth.of_grown (S := fun k => r = some k) hg fun _b e => e) fun _k _ h1 h2 => h1.2 h2.symm
/-- a text more in the first row -/
theorem KI.push1 (C : Ct w0 In) (h : KI In w0 W gs g x v1 v2 K ids) {v1' : Value} {K' : List Bs} (hg : W.grownBy W' v1.ownBlock) (ho : OTS W' (fun k => (v1.ownBlock = some k ∧ w0.heap.size ≤ k) ∨ W.heap.size ≤ k) tS v1' K') : KI In w0 W' gs g x v1' v2 K' ids := by
  obtain ⟨h1, ⟨U, h2, h3, h4, h5⟩, h6, h7⟩ := h
  have hne := ots_ne h7 h6 (by decide)
  have hw : ∀ k, v1'.ownBlock = some k → w0.heap.size ≤ k := fun k hk => (ho.2 k hk).elim (fun y => y.2) fun y => Nat.le_trans h1.size y
  refine ⟨h1.grown hg h1.size fun k e => (h6.2 k e).2, ⟨fun k => k < W.heap.size ∧ U k, (h2.imp (V := fun k => k < W.heap.size ∧ U k) C fun k hk hu => ⟨hk, hu⟩).oth C (Oth.of_grown (S := fun k => v1.ownBlock = some k) hg fun b e => e) fun k _ a b => h4 k b a.2, fun k hk => Nat.lt_of_lt_of_le hk.1 hg.size, fun k hk hu => ?_, fun k hk hu => h5 k hk hu.2⟩, ⟨ho.1, fun k hk => ⟨hk, hw k hk⟩⟩, h7.move fun k hk hlt => hg.block k hlt fun e => hne k hk.1 e.symm⟩
  rcases ho.2 k hk with y | y
  · exact h4 k y.1 hu.2
  · have := hu.1; omega
theorem KI.push2 (C : Ct w0 In) (h : KI In w0 W gs g x v1 v2 K ids) {v2' : Value} {ids' : List Bs} (hg : W.grownBy W' v2.ownBlock) (ho : OTS W' (fun k => (v2.ownBlock = some k ∧ w0.heap.size ≤ k) ∨ W.heap.size ≤ k) tId v2' ids') : KI In w0 W' gs g x v1 v2' K ids' := by
  obtain ⟨h1, ⟨U, h2, h3, h4, h5⟩, h6, h7⟩ := h
  have hne := ots_ne h6 h7 (by decide)
  have hw : ∀ k, v2'.ownBlock = some k → w0.heap.size ≤ k := fun k hk => (ho.2 k hk).elim (fun y => y.2) fun y => Nat.le_trans h1.size y
  refine ⟨h1.grown hg h1.size fun k e => (h7.2 k e).2, ⟨fun k => k < W.heap.size ∧ U k, (h2.imp (V := fun k => k < W.heap.size ∧ U k) C fun k hk hu => ⟨hk, hu⟩).oth C (Oth.of_grown (S := fun k => v2.ownBlock = some k) hg fun b e => e) fun k _ a b => h5 k b a.2, fun k hk => Nat.lt_of_lt_of_le hk.1 hg.size, fun k hk hu => h4 k hk hu.2, fun k hk hu => ?_⟩, h6.move fun k hk hlt => hg.block k hlt fun e => hne k hk.1 e.symm, ⟨ho.1, fun k hk => ⟨hk, hw k hk⟩⟩⟩
  rcases ho.2 k hk with y | y
  · exact h5 k y.1 hu.2
  · have := hu.1; omega
theorem KI.size (h : KI In w0 W gs g x v1 v2 K ids) : Calls Tryd.prog 28 #[pt g] W fun y w' => y = .returned (.int .i64 (x.s.k.length : Nat)) ∧ W = w' := by
  obtain ⟨U, h2, _⟩ := h.ps
  exact h2.size
theorem KI.many (C : Ct w0 In) (h : KI In w0 W gs g x v1 v2 K ids) (hl : x.L.length ≤ 1000) : Calls Tryd.prog 27 #[pt gs] W fun y w' => y = .returned (.int .i64 (x.L.length : Int)) ∧ Below W.heap.size W w' := by
  obtain ⟨U, h2, _⟩ := h.ps
  exact h2.many C h.low hl
end
theorem plain_put {x : Ss} (h : Plain x.s) {b : Bs} (hb : b.length ≤ 131072) : (put x b).2 = (sha b, 0) ∨ (put x b).2 = ([], 8) ∧ (put x b).1 = x := by
  unfold put
  rw [if_neg (by omega)]
  by_cases hm : sha b ∈ x.L.map sha
  · rw [if_pos hm]; exact .inl rfl
  · rw [if_neg hm]
    rcases (h.put (record b)).2 with he | ⟨he, hs⟩
    · rw [if_pos he]; exact .inl rfl
    · rw [if_neg (by rw [he]; decide), he, hs]
      exact .inr ⟨rfl, rfl⟩
theorem put_many {x : Ss} {b : Bs} : (put x b).1.L.length ≤ x.L.length + 1 := by
  rcases put_grows (x := x) (b := b) with h | ⟨h, _⟩ <;> (rw [h]; simp)
theorem put_keeps {x : Ss} {b : Bs} {i : Bs} (h : i ∈ x.L.map sha) : i ∈ (put x b).1.L.map sha := by
  rcases put_grows (x := x) (b := b) with e | ⟨e, _⟩
  · rw [e]; exact h
  · rw [e, List.map_append]; exact List.mem_append.2 (.inl h)
/-- what holds between two rounds of StoreOnce -/
structure OnceF (x : Ss) (K : List Bs) (k : Nat) : Prop where
  good : Good x
  plain : Plain x.s
  all : ∀ b ∈ K, b.length ≤ 60 ∧ sha b ∈ x.L.map sha
  few : x.L.length ≤ K.length
  le : K.length ≤ k
theorem OnceF.yes {x : Ss} {K : List Bs} {k : Nat} {b : Bs} (h : OnceF x K k) (hb : b.length ≤ 60) (he : (put x b).2.2 = 0) : OnceF (put x b).1 (K ++ [b]) (k + 1) := by
  refine ⟨h.good.put b, h.plain.so b, fun c hc => ?_, ?_, ?_⟩
  · rcases List.mem_append.1 hc with hc | hc
    · exact ⟨(h.all c hc).1, put_keeps (h.all c hc).2⟩
    · rw [List.mem_singleton.1 hc]
      exact ⟨hb, (put_there he).2⟩
  · have := put_many (x := x) (b := b)
    have := h.few
    rw [List.length_append, List.length_cons, List.length_nil]; omega
  · have := h.le
    rw [List.length_append, List.length_cons, List.length_nil]; omega
theorem OnceF.no {x : Ss} {K : List Bs} {k : Nat} (h : OnceF x K k) : OnceF x K (k + 1) := ⟨h.good, h.plain, h.all, h.few, Nat.le_succ_of_le h.le⟩
end Go.Proofs.YtcmjdepjckhpdaaDoor.So
