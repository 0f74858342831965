/-
  A store by itself: opened anew, put, asked; rows of the law's own that are written.
-/
import Derived.Test.YtcmjdepjckhpdabDoorZO
namespace Go.Proofs.YtcmjdepjckhpdabDoor.So
open Go Go.RowKit Kt Kg Wr Lw Sha Dk Dg

theorem Ct.born {w0 w : World} {In : World → (Nat → Prop) → Nat → Nat → List Bs → Prop} (C : Ct w0 In) {Sd : Nat → Prop} {gd n : Nat} (hlow : Below w0.heap.size w0 w) (hd : DkIn w Sd gd (new n)) (hn : n ≤ 16777216) (hup : ∀ k, Sd k → w0.heap.size ≤ k) :
    Calls Tryd.prog 7 #[pt gd] w fun y w' => ∃ gs, y = .returned (.tuple #[pt gs, .int .i64 0]) ∧ PS In w0 w' (fun k => k < w'.heap.size ∧ (Sd k ∨ w.heap.size ≤ k)) gs gd ⟨new n, []⟩ ∧ Below w0.heap.size w0 w' ∧ Oth Sd w w' := by
  refine (C.fresh2 hlow hd hn hup).mono ?_
  rintro y w' ⟨gs, S, Sd', rfl, h1, h2, h3, h4, h5, h6, h7, h8⟩
  exact ⟨gs, rfl, ⟨S, Sd', h1, h2, fun k hk => ⟨⟨hk.elim (C.lt h1 k) (h2.lt k), hk.elim (fun x => .inr (h5 k x)) (h6 k)⟩, h4 k hk⟩, h8⟩, h3, h7⟩
section
variable {In : World → (Nat → Prop) → Nat → Nat → List Bs → Prop} {w0 w : World} {U : Nat → Prop} {gs g : Nat} {x : Ss}
theorem PS.many (C : Ct w0 In) (h : PS In w0 w U gs g x) (hlow : Below w0.heap.size w0 w) (hl : x.L.length ≤ 1000) :
    Calls Tryd.prog 16 #[pt gs] w fun y w' => y = .returned (.int .i64 (x.L.length : Int)) ∧ Below w.heap.size w w' := by
  obtain ⟨S, Sd, h1, _⟩ := h
  exact C.many hlow h1 hl
theorem PS.get (C : Ct w0 In) (h : PS In w0 w U gs g x) (hlow : Below w0.heap.size w0 w) (hl : x.L.length ≤ 1000) (id : Bs) :
    Calls Tryd.prog 14 #[pt gs, .string ⟨id.toArray⟩] w fun y w' => ∃ v, y = .returned (.tuple #[v, .bool (got x.L id).isSome]) ∧ Own w' w.heap.size tU8 v ((got x.L id).getD []) ∧ Below w.heap.size w w' := by
  obtain ⟨S, Sd, h1, _⟩ := h
  exact C.get id hlow h1 hl
theorem PS.ids (C : Ct w0 In) (h : PS In w0 w U gs g x) (hlow : Below w0.heap.size w0 w) (hl : x.L.length ≤ 1000) :
    Calls Tryd.prog 12 #[pt gs] w fun y w' => ∃ v, y = .returned v ∧ OwT w' w.heap.size tId v (x.L.map sha) ∧ Below w.heap.size w w' := by
  obtain ⟨S, Sd, h1, _⟩ := h
  exact C.ids hlow h1 hl
theorem PS.size (h : PS In w0 w U gs g x) : Calls Tryd.prog 32 #[pt g] w fun y w' => y = .returned (.int .i64 (x.s.k.length : Nat)) ∧ w = w' := by
  obtain ⟨S, Sd, _, h2, _⟩ := h
  exact size_any h2
theorem PS.bytes (h : PS In w0 w U gs g x) (hf : x.s.fit) : Calls Tryd.prog 10 #[pt g] w fun y w' => ∃ v, y = .returned v ∧ Own w' w.heap.size tU8 v x.s.k ∧ Below w.heap.size w w' := by
  obtain ⟨S, Sd, _, h2, _⟩ := h
  exact bytes_call h2 hf
/-- another state of the disk -/
theorem PS.disk (C : Ct w0 In) (h : PS In w0 w U gs g x) (hlow : Below w0.heap.size w0 w) {f : Nat} {args : Array Value} {s' : Dk.St} {v : Value} (hc : ∀ Sd, DkIn w Sd g x.s → Calls Tryd.prog f args w fun y w' => y = .returned v ∧ ∃ S', DkIn w' S' g s' ∧ Oth Sd w w' ∧ ∀ k, S' k → Sd k ∨ w.heap.size ≤ k) :
    Calls Tryd.prog f args w fun y w' => y = .returned v ∧ PS In w0 w' (fun k => k < w'.heap.size ∧ (U k ∨ w.heap.size ≤ k)) gs g ⟨s', x.L⟩ ∧ Oth U w w' ∧ Below w0.heap.size w0 w' := by
  obtain ⟨S, Sd, h1, h2, h3, h4⟩ := h
  refine (hc Sd h2).mono ?_
  rintro y w' ⟨rfl, S', q1, q2, q3⟩
  have q4 : ∀ k, S k → k < w.heap.size := C.lt h1
  have h5 := C.oth h1 q2 h4
  refine ⟨rfl, ⟨S, S', h5, q1, fun k hk => ?_, fun k hk hd => (q3 k hd).elim (h4 k hk) fun x => by have := q4 k hk; omega⟩, q2.mono fun k _ hk => (h3 k (.inr hk)).1, oth_low q2 hlow fun k hk => (h3 k (.inr hk)).2⟩
  rcases hk with hk | hk
  · exact ⟨⟨C.lt h5 k hk, .inl (h3 k (.inl hk)).1⟩, (h3 k (.inl hk)).2⟩
  · rcases q3 k hk with y | y
    · exact ⟨⟨q1.lt k hk, .inl (h3 k (.inr y)).1⟩, (h3 k (.inr y)).2⟩
    · exact ⟨⟨q1.lt k hk, .inr y⟩, Nat.le_trans hlow.size y⟩
end
theorem conv_row (s : List UInt8) (w : World) : ∃ cap ob, (convert 9 38 (.string ⟨s.toArray⟩)).run Tryd.prog w = .ok (.slice (some ⟨w.heap.size, 0, none⟩) s.length cap) (w.drew.alloc ob) ∧ Sl (w.drew.alloc ob) (fun b => b = w.heap.size) (some ⟨w.heap.size, 0, none⟩) cap s ∧ ∀ i, i < s.length → (w.drew.alloc ob).frozen? ⟨w.heap.size, i, none⟩ = false := by
  refine ⟨_, _, run_bytes_of_string w 9 38 5 ⟨s.toArray⟩ Tryd.underlying9 Tryd.underlying38 Tryd.underlying5, ⟨?_, fun hn => ⟨_, 0, rfl, rfl, fun j hj => ?_⟩⟩, fun i hi => ?_⟩
  · have := grownCap_ge w (ByteArray.size ⟨s.toArray⟩) 0 5
    simpa [ByteArray.size] using this
  · rw [Nat.zero_add, cell_of_row _ w.heap.size j _ _ _ (heap_alloc_new w.drew _), bytesRow_at _ _ _ (by simpa using hj)]
    simp [List.getElem?_eq_getElem hj]
  · have hb := bytesRow_at ⟨s.toArray⟩ (grownCap w (ByteArray.size ⟨s.toArray⟩) 0 5) i (by simpa using hi)
    have hlt := (Array.getElem?_eq_some_iff.1 hb).1
    have hh := heap_alloc_new w.drew (.cells (bytesRow ⟨s.toArray⟩ (grownCap w (ByteArray.size ⟨s.toArray⟩) 0 5)) 5 ((bytesRow ⟨s.toArray⟩ (grownCap w (ByteArray.size ⟨s.toArray⟩) 0 5)).size, (bytesRow ⟨s.toArray⟩ (grownCap w (ByteArray.size ⟨s.toArray⟩) 0 5)).size + 1))
    unfold World.frozen?
    rw [show w.heap.size = w.drew.heap.size from rfl, hh]
    simp only [Bool.and_eq_false_iff, decide_eq_false_iff_not]
    left
    omega
theorem sl_zero {w : World} {P : Nat → Prop} {q c : Nat} {s : List UInt8} (h : Sl w P (some ⟨q, 0, none⟩) c s) {i : Nat} (hi : i < s.length) : ∃ v, w.cell? ⟨q, i, none⟩ = some v := by
  obtain ⟨b, o, e, _, hc⟩ := h.2 (by omega)
  injection e with e
  injection e with e1 e2 _
  subst e1 e2
  have := hc i hi
  rw [Nat.zero_add] at this
  exact ⟨_, this⟩
theorem row_frozen {w : World} {q i : Nat} {cs : Array Value} {t : TypeId} (h : w.heap[q]? = some (.cells cs t)) : w.frozen? ⟨q, i, none⟩ = false := frozen_of_row w q i cs t h
/-- an own row of bytes, not empty -/
theorem own_at {w : World} {B : Nat} {v : Value} {l : List UInt8} (h : Own w B tU8 v l) (hn : 0 < l.length) : ∃ g c, v = .slice (some ⟨g, 0, none⟩) l.length c ∧ B ≤ g ∧ g < w.heap.size ∧ (∀ i, w.frozen? ⟨g, i, none⟩ = false) ∧ Sl w (fun b => b = g) (some ⟨g, 0, none⟩) c l := by
  obtain ⟨A, c, e, hs⟩ := h.sl
  rcases h.2 with ⟨_, h0⟩ | ⟨g, cap, cur, rfl, hB, hg, _⟩
  · omega
  · injection e with e1 _ e3
    subst e1 e3
    exact ⟨g, cap, rfl, hB, (Array.getElem?_eq_some_iff.1 hg).1, fun i => row_frozen hg, hs.imp fun b _ hb => by simpa [Value.ownBlock] using hb.2.symm⟩
/-- an own row of texts, not empty -/
theorem owt_at {w : World} {B : Nat} {E : TypeId} {v : Value} {l : List Bs} (h : OwT w B E v l) (hn : 0 < l.length) : ∃ g c, v = .slice (some ⟨g, 0, none⟩) l.length c ∧ B ≤ g ∧ g < w.heap.size ∧ (∀ i, w.frozen? ⟨g, i, none⟩ = false) ∧ ∀ k x, l[k]? = some x → w.cell? ⟨g, k, none⟩ = some (.string ⟨x.toArray⟩) := by
  obtain ⟨A, c, e, hs⟩ := h.vs
  rcases h.2 with ⟨_, h0⟩ | ⟨g, cap, cur, rfl, hB, hg, _⟩
  · omega
  · injection e with e1 _ e3
    subst e1 e3
    refine ⟨g, cap, rfl, hB, (Array.getElem?_eq_some_iff.1 hg).1, fun i => row_frozen hg, fun k x hk => ?_⟩
    obtain ⟨b, o, e, _, hc⟩ := vs_at hs hk
    injection e with e
    injection e with e1 e2 _
    subst e1 e2
    rw [Nat.zero_add] at hc
    exact hc
theorem put_fits {x : Bs} (hx : x.length ≤ 60) {n : Nat} (hn : 100 ≤ n) : (put ⟨new n, []⟩ x).1.L = [x] ∧ (put ⟨new n, []⟩ x).2 = (sha x, 0) := by
  have hr := record_len x
  have hf := form_short x.length 1 (by omega) (by omega)
  have h1 : Dk.put (new n) (record x) = (⟨record x, n, -1, false⟩, 0) := by
    unfold Dk.put new
    rw [if_neg (by simp), if_neg (by simp only [List.length_nil]; omega), if_neg (by simp)]
    simp
  unfold put
  rw [if_neg (by omega), if_neg (by simp), h1]
  simp
end Go.Proofs.YtcmjdepjckhpdabDoor.So
namespace Go.Proofs.YtcmjdepjckhpdabDoor.So
open Go Go.RowKit Kt Kg Wr Lw Sha Dk Dg

/-- a store, what was put, and ids, each in blocks of its own -/
structure KI (In : World → (Nat → Prop) → Nat → Nat → List Bs → Prop) (w0 W : World) (gs g : Nat) (x : Ss) (v1 v2 : Value) (K ids : List Bs) : Prop where
  low : Below w0.heap.size w0 W
  ps : ∃ U, PS In w0 W U gs g x ∧ (∀ k, U k → k < W.heap.size) ∧ (∀ b, v1.ownBlock = some b → ¬ U b) ∧ ∀ b, v2.ownBlock = some b → ¬ U b
  r1 : OTS W (fun k => v1.ownBlock = some k ∧ w0.heap.size ≤ k) tS v1 K
  r2 : OTS W (fun k => v2.ownBlock = some k ∧ w0.heap.size ≤ k) tId v2 ids
section
variable {In : World → (Nat → Prop) → Nat → Nat → List Bs → Prop} {w0 W W' : World} {gs g : Nat} {x : Ss} {v1 v2 : Value} {K ids : List Bs}
theorem OTS.below {w w' : World} {S : Nat → Prop} {E : TypeId} {v : Value} {l : List Bs} (h : OTS w S E v l) (hb : Below w.heap.size w w') : OTS w' S E v l := h.move fun b _ hlt => hb.block b hlt
theorem KI.below (C : Ct w0 In) (h : KI In w0 W gs g x v1 v2 K ids) (hb : Below W.heap.size W W') : KI In w0 W' gs g x v1 v2 K ids := by
  obtain ⟨h1, ⟨U, h2, h3, h4, h5⟩, h6, h7⟩ := h
  exact ⟨h1.trans (hb.mono h1.size), ⟨U, h2.below C hb, fun k hk => Nat.lt_of_lt_of_le (h3 k hk) hb.size, h4, h5⟩, h6.below hb, h7.below hb⟩
theorem KI.start (C : Ct w0 In) {U : Nat → Prop} (hlow : Below w0.heap.size w0 W) (h : PS In w0 W U gs g x) : KI In w0 W gs g x (.slice none 0 0) (.slice none 0 0) [] [] :=
  ⟨hlow, ⟨_, h.imp (V := fun k => k < W.heap.size ∧ U k) C fun k hk hu => ⟨hk, hu⟩, fun k hk => hk.1, fun b hb => (by cases hb), fun b hb => (by cases hb)⟩, OTS.nil _ _ _, OTS.nil _ _ _⟩
/-- a text is put -/
theorem KI.put (C : Ct w0 In) (h : KI In w0 W gs g x v1 v2 K ids) (hf : x.s.fit) (b : Bs) (hb : b.length ≤ 1000) (hl : x.L.length ≤ 1000) {wa : World} {q c : Nat} (hba : Below W.heap.size W wa) (hq : W.heap.size ≤ q) (hs : Sl wa (fun z => z = q) (some ⟨q, 0, none⟩) c b) :
    Calls Tryd.prog 8 #[pt gs, .slice (some ⟨q, 0, none⟩) b.length c] wa fun y w' => y = .returned (.tuple #[.string ⟨(So.put x b).2.1.toArray⟩, .int .i64 ((So.put x b).2.2 : Int)]) ∧
      KI In w0 w' gs g (So.put x b).1 v1 v2 K ids ∧ Below w0.heap.size w0 w' := by
  have ha := h.below C hba
  obtain ⟨_, ⟨U, h2, h3, h4, h5⟩, _, _⟩ := h
  refine ((h2.below C hba).put C ha.low hf b _ _ _ hs (fun k hk hu => by have := h3 k hu; omega) hb hl).mono ?_
  rintro y w' ⟨rfl, q1, q2, q3⟩
  have hn1 : ∀ k, v1.ownBlock = some k → k < wa.heap.size ∧ ¬ U k := fun k hk => ⟨ha.r1.lt hk, h4 k hk⟩
  have hn2 : ∀ k, v2.ownBlock = some k → k < wa.heap.size ∧ ¬ U k := fun k hk => ⟨ha.r2.lt hk, h5 k hk⟩
  refine ⟨rfl, ⟨q3, ⟨fun k => k < w'.heap.size ∧ (U k ∨ wa.heap.size ≤ k), q1.imp C fun k hk hu => ⟨hk, hu⟩, fun k hk => hk.1, fun k hk hu => ?_, fun k hk hu => ?_⟩, ha.r1.move fun k hk hlt => q2.block k hlt (h4 k hk.1), ha.r2.move fun k hk hlt => q2.block k hlt (h5 k hk.1)⟩, q3⟩
  · have := hn1 k hk
    rcases hu.2 with hu | hu
    · exact this.2 hu
    · omega
  · have := hn2 k hk
    rcases hu.2 with hu | hu
    · exact this.2 hu
    · omega
theorem ki_ps (C : Ct w0 In) {r : Option Nat} (h : PS In w0 W (fun k => k < W.heap.size ∧ some k ≠ r) gs g x) (hg : W.grownBy W' r) : PS In w0 W' (fun k => k < W.heap.size ∧ some k ≠ r) gs g x :=
  h.oth C (Oth.of_grown (S := fun k => r = some k) hg fun _b e => e) fun _k _ h1 h2 => h1.2 h2.symm
/-- a text more in the first row -/
theorem KI.push1 (C : Ct w0 In) (h : KI In w0 W gs g x v1 v2 K ids) {v1' : Value} {K' : List Bs} (hg : W.grownBy W' v1.ownBlock) (ho : OTS W' (fun k => (v1.ownBlock = some k ∧ w0.heap.size ≤ k) ∨ W.heap.size ≤ k) tS v1' K') : KI In w0 W' gs g x v1' v2 K' ids := by
  obtain ⟨h1, ⟨U, h2, h3, h4, h5⟩, h6, h7⟩ := h
  have hne := ots_ne h7 h6 (by decide)
  have hw : ∀ k, v1'.ownBlock = some k → w0.heap.size ≤ k := fun k hk => (ho.2 k hk).elim (fun y => y.2) fun y => Nat.le_trans h1.size y
  refine ⟨h1.grown hg h1.size fun k e => (h6.2 k e).2, ⟨fun k => k < W.heap.size ∧ U k, (h2.imp (V := fun k => k < W.heap.size ∧ U k) C fun k hk hu => ⟨hk, hu⟩).oth C (Oth.of_grown (S := fun k => v1.ownBlock = some k) hg fun b e => e) fun k _ a b => h4 k b a.2, fun k hk => Nat.lt_of_lt_of_le hk.1 hg.size, fun k hk hu => ?_, fun k hk hu => h5 k hk hu.2⟩, ⟨ho.1, fun k hk => ⟨hk, hw k hk⟩⟩, h7.move fun k hk hlt => hg.block k hlt fun e => hne k hk.1 e.symm⟩
  rcases ho.2 k hk with y | y
  · exact h4 k y.1 hu.2
  · have := hu.1; omega
theorem KI.push2 (C : Ct w0 In) (h : KI In w0 W gs g x v1 v2 K ids) {v2' : Value} {ids' : List Bs} (hg : W.grownBy W' v2.ownBlock) (ho : OTS W' (fun k => (v2.ownBlock = some k ∧ w0.heap.size ≤ k) ∨ W.heap.size ≤ k) tId v2' ids') : KI In w0 W' gs g x v1 v2' K ids' := by
  obtain ⟨h1, ⟨U, h2, h3, h4, h5⟩, h6, h7⟩ := h
  have hne := ots_ne h6 h7 (by decide)
  have hw : ∀ k, v2'.ownBlock = some k → w0.heap.size ≤ k := fun k hk => (ho.2 k hk).elim (fun y => y.2) fun y => Nat.le_trans h1.size y
  refine ⟨h1.grown hg h1.size fun k e => (h7.2 k e).2, ⟨fun k => k < W.heap.size ∧ U k, (h2.imp (V := fun k => k < W.heap.size ∧ U k) C fun k hk hu => ⟨hk, hu⟩).oth C (Oth.of_grown (S := fun k => v2.ownBlock = some k) hg fun b e => e) fun k _ a b => h5 k b a.2, fun k hk => Nat.lt_of_lt_of_le hk.1 hg.size, fun k hk hu => h4 k hk hu.2, fun k hk hu => ?_⟩, h6.move fun k hk hlt => hg.block k hlt fun e => hne k hk.1 e.symm, ⟨ho.1, fun k hk => ⟨hk, hw k hk⟩⟩⟩
  rcases ho.2 k hk with y | y
  · exact h5 k y.1 hu.2
  · have := hu.1; omega
theorem KI.size (h : KI In w0 W gs g x v1 v2 K ids) : Calls Tryd.prog 32 #[pt g] W fun y w' => y = .returned (.int .i64 (x.s.k.length : Nat)) ∧ W = w' := by
  obtain ⟨U, h2, _⟩ := h.ps
  exact h2.size
theorem KI.many (C : Ct w0 In) (h : KI In w0 W gs g x v1 v2 K ids) (hl : x.L.length ≤ 1000) : Calls Tryd.prog 16 #[pt gs] W fun y w' => y = .returned (.int .i64 (x.L.length : Int)) ∧ Below W.heap.size W w' := by
  obtain ⟨U, h2, _⟩ := h.ps
  exact h2.many C h.low hl
end
theorem plain_put {x : Ss} (h : Plain x.s) {b : Bs} (hb : b.length ≤ 131072) : (put x b).2 = (sha b, 0) ∨ (put x b).2 = ([], 8) ∧ (put x b).1 = x := by
  unfold put
  rw [if_neg (by omega)]
  by_cases hm : sha b ∈ x.L.map sha
  · rw [if_pos hm]; exact .inl rfl
  · rw [if_neg hm]
    rcases (h.put (record b)).2 with he | ⟨he, hs⟩
    · rw [if_pos he]; exact .inl rfl
    · rw [if_neg (by rw [he]; decide), he, hs]
      exact .inr ⟨rfl, rfl⟩
theorem put_many {x : Ss} {b : Bs} : (put x b).1.L.length ≤ x.L.length + 1 := by
  rcases put_grows (x := x) (b := b) with h | ⟨h, _⟩ <;> (rw [h]; simp)
theorem put_keeps {x : Ss} {b : Bs} {i : Bs} (h : i ∈ x.L.map sha) : i ∈ (put x b).1.L.map sha := by
  rcases put_grows (x := x) (b := b) with e | ⟨e, _⟩
  · rw [e]; exact h
  · rw [e, List.map_append]; exact List.mem_append.2 (.inl h)
/-- what holds between two rounds of StoreOnce -/
structure OnceF (x : Ss) (K : List Bs) (k : Nat) : Prop where
  good : Good x
  plain : Plain x.s
  all : ∀ b ∈ K, b.length ≤ 60 ∧ sha b ∈ x.L.map sha
  few : x.L.length ≤ K.length
  le : K.length ≤ k
theorem OnceF.yes {x : Ss} {K : List Bs} {k : Nat} {b : Bs} (h : OnceF x K k) (hb : b.length ≤ 60) (he : (put x b).2.2 = 0) : OnceF (put x b).1 (K ++ [b]) (k + 1) := by
  refine ⟨h.good.put b, h.plain.so b, fun c hc => ?_, ?_, ?_⟩
  · rcases List.mem_append.1 hc with hc | hc
    · exact ⟨(h.all c hc).1, put_keeps (h.all c hc).2⟩
    · rw [List.mem_singleton.1 hc]
      exact ⟨hb, (put_there he).2⟩
  · have := put_many (x := x) (b := b)
    have := h.few
    rw [List.length_append, List.length_cons, List.length_nil]; omega
  · have := h.le
    rw [List.length_append, List.length_cons, List.length_nil]; omega
theorem OnceF.no {x : Ss} {K : List Bs} {k : Nat} (h : OnceF x K k) : OnceF x K (k + 1) := ⟨h.good, h.plain, h.all, h.few, Nat.le_succ_of_le h.le⟩
end Go.Proofs.YtcmjdepjckhpdabDoor.So
namespace Go.Proofs.YtcmjdepjckhpdabDoor.So
open Go Go.RowKit Kt Kg Wr Lw Sha Dk Dg

theorem record_short {b : Bs} (hb : b.length ≤ 60) : (record b).length ≤ 65 := by
  have := record_len b
  have := form_short b.length 1 (by omega) (by omega)
  omega
theorem put_len {x : Ss} {b : Bs} (hf : x.s.fit) (hb : b.length ≤ 60) : (put x b).1.s.k.length ≤ x.s.k.length + 65 := by
  have hr := record_short hb
  have hk : (Dk.put x.s (record b)).1.k.length ≤ x.s.k.length + 65 := by
    rcases put_fst (b := record b) hf with ⟨_, h, _⟩ | ⟨_, ⟨h, _⟩ | ⟨_, j, _, h, _⟩⟩
    · rw [h, List.length_append]; omega
    · rw [h]; omega
    · rw [h, List.length_append, List.length_take]; omega
  unfold put
  split
  · exact Nat.le_add_right _ _
  · split
    · exact Nat.le_add_right _ _
    · split <;> exact hk
/-- a disk, the stores on it, and what else stays -/
structure TS (In : World → (Nat → Prop) → Nat → Nat → List Bs → Prop) (w0 W : World) (g : Nat) (s : Dk.St) (L : List Bs) (st : List Nat) (F : Nat → Prop) : Prop where
  low : Below w0.heap.size w0 W
  dk : ∃ Sd, DkIn W Sd g s ∧ (∀ k, Sd k → w0.heap.size ≤ k) ∧ (∀ gs ∈ st, ∃ S, In W S gs g L ∧ ∀ k, S k → ¬ Sd k) ∧ ∀ k, F k → k < W.heap.size ∧ ¬ Sd k
section
variable {In : World → (Nat → Prop) → Nat → Nat → List Bs → Prop} {w0 W W' : World} {g : Nat} {s : Dk.St} {L : List Bs} {st : List Nat} {F : Nat → Prop}
theorem TS.of {U : Nat → Prop} {gs : Nat} {x : Ss} (hlow : Below w0.heap.size w0 W) (h : PS In w0 W U gs g x) : TS In w0 W g x.s x.L [gs] (fun _ => False) := by
  obtain ⟨S, Sd, h1, h2, h3, h4⟩ := h
  exact ⟨hlow, Sd, h2, fun k hk => (h3 k (.inr hk)).2, fun gs' hg => ⟨S, by rw [List.mem_singleton.1 hg]; exact h1, h4⟩, fun k hk => hk.elim⟩
/-- new blocks stay, too -/
theorem TS.below (C : Ct w0 In) (h : TS In w0 W g s L st F) (hb : Below W.heap.size W W') : TS In w0 W' g s L st (fun k => F k ∨ (W.heap.size ≤ k ∧ k < W'.heap.size)) := by
  obtain ⟨h1, Sd, h2, h3, h4, h5⟩ := h
  refine ⟨h1.trans (hb.mono h1.size), Sd, h2.below hb, h3, fun gs hg => ?_, fun k hk => ?_⟩
  · obtain ⟨S, q1, q2⟩ := h4 gs hg
    exact ⟨S, C.below q1 hb, q2⟩
  · rcases hk with hk | hk
    · exact ⟨Nat.lt_of_lt_of_le (h5 k hk).1 hb.size, (h5 k hk).2⟩
    · exact ⟨hk.2, fun x => by have := h2.lt k x; omega⟩
theorem TS.imp {F' : Nat → Prop} (h : TS In w0 W g s L st F) (hi : ∀ k, F' k → F k) : TS In w0 W g s L st F' := by
  obtain ⟨h1, Sd, h2, h3, h4, h5⟩ := h
  exact ⟨h1, Sd, h2, h3, h4, fun k hk => h5 k (hi k hk)⟩
theorem TS.ids (C : Ct w0 In) (h : TS In w0 W g s L st F) {gs : Nat} (hg : gs ∈ st) (hl : L.length ≤ 1000) :
    Calls Tryd.prog 12 #[pt gs] W fun y w' => ∃ v, y = .returned v ∧ OwT w' W.heap.size tId v (L.map sha) ∧ Below W.heap.size W w' := by
  obtain ⟨h1, Sd, h2, h3, h4, h5⟩ := h
  obtain ⟨S, q1, q2⟩ := h4 gs hg
  exact C.ids h1 q1 hl
theorem TS.many (C : Ct w0 In) (h : TS In w0 W g s L st F) {gs : Nat} (hg : gs ∈ st) (hl : L.length ≤ 1000) :
    Calls Tryd.prog 16 #[pt gs] W fun y w' => y = .returned (.int .i64 (L.length : Int)) ∧ Below W.heap.size W w' := by
  obtain ⟨h1, Sd, h2, h3, h4, h5⟩ := h
  obtain ⟨S, q1, q2⟩ := h4 gs hg
  exact C.many h1 q1 hl
theorem TS.get (C : Ct w0 In) (h : TS In w0 W g s L st F) {gs : Nat} (hg : gs ∈ st) (hl : L.length ≤ 1000) (id : Bs) :
    Calls Tryd.prog 14 #[pt gs, .string ⟨id.toArray⟩] W fun y w' => ∃ v, y = .returned (.tuple #[v, .bool (got L id).isSome]) ∧ Own w' W.heap.size tU8 v ((got L id).getD []) ∧ Below W.heap.size W w' := by
  obtain ⟨h1, Sd, h2, h3, h4, h5⟩ := h
  obtain ⟨S, q1, q2⟩ := h4 gs hg
  exact C.get id h1 q1 hl
theorem TS.bytes (h : TS In w0 W g s L st F) (hf : s.fit) : Calls Tryd.prog 10 #[pt g] W fun y w' => ∃ v, y = .returned v ∧ Own w' W.heap.size tU8 v s.k ∧ Below W.heap.size W w' := by
  obtain ⟨h1, Sd, h2, h3, h4, h5⟩ := h
  exact bytes_call h2 hf
theorem TS.size (h : TS In w0 W g s L st F) : Calls Tryd.prog 32 #[pt g] W fun y w' => y = .returned (.int .i64 (s.k.length : Nat)) ∧ W = w' := by
  obtain ⟨h1, Sd, h2, h3, h4, h5⟩ := h
  exact size_any h2
/-- the disk alone is turned -/
theorem TS.turn (C : Ct w0 In) (h : TS In w0 W g s L st F) {f : Nat} {args : Array Value} {s' : Dk.St} {v : Value} (hc : ∀ Sd, DkIn W Sd g s → Calls Tryd.prog f args W fun y w' => y = .returned v ∧ ∃ S', DkIn w' S' g s' ∧ Oth Sd W w' ∧ ∀ k, S' k → Sd k ∨ W.heap.size ≤ k) :
    Calls Tryd.prog f args W fun y w' => y = .returned v ∧ TS In w0 w' g s' L st F ∧ ∀ k, F k → w'.heap[k]? = W.heap[k]? := by
  obtain ⟨h1, Sd, h2, h3, h4, h5⟩ := h
  refine (hc Sd h2).mono ?_
  rintro y w' ⟨rfl, S', q1, q2, q3⟩
  refine ⟨rfl, ⟨oth_low q2 h1 h3, S', q1, fun k hk => (q3 k hk).elim (h3 k) fun x => Nat.le_trans h1.size x, fun gs hg => ?_, fun k hk => ?_⟩, fun k hk => q2.block k (h5 k hk).1 (h5 k hk).2⟩
  · obtain ⟨S, p1, p2⟩ := h4 gs hg
    exact ⟨S, C.oth p1 q2 p2, fun k hk hd => (q3 k hd).elim (p2 k hk) fun x => by have := C.lt p1 k hk; omega⟩
  · exact ⟨Nat.lt_of_lt_of_le (h5 k hk).1 q2.size, fun hd => (q3 k hd).elim (h5 k hk).2 fun x => by have := (h5 k hk).1; omega⟩
/-- opened again -/
theorem TS.again (C : Ct w0 In) {M : List Bs} {n : Nat} (h : TS In w0 W g s L st F) (hf : s.fit) (hdead : s.dead = false) (hk : s.k.length ≤ 4000) (hop : op [] s.k 0 = (0, M, n)) :
    Calls Tryd.prog 7 #[pt g] W fun y w' => ∃ gs, y = .returned (.tuple #[pt gs, .int .i64 0]) ∧ TS In w0 w' g ⟨s.k.take n, s.room, s.fuse, false⟩ L st F ∧ TS In w0 w' g ⟨s.k.take n, s.room, s.fuse, false⟩ M [gs] F ∧ (M = L → TS In w0 w' g ⟨s.k.take n, s.room, s.fuse, false⟩ L (gs :: st) F) ∧ ∀ k, F k → w'.heap[k]? = W.heap[k]? := by
  obtain ⟨h1, Sd, h2, h3, h4, h5⟩ := h
  refine (C.opened h1 h2 hf hdead h3 hk).mono ?_
  rintro y w' (⟨q, _⟩ | ⟨_, gs, S, Sd', rfl, q1, q2, q3, q4, q5, q6⟩)
  · rw [hop] at q; exact absurd rfl q
  · rw [hop] at q1 q3
    rw [hdead] at q3
    have hlow := oth_low q4 h1 h3
    have hst : ∀ gs ∈ st, ∃ S, In w' S gs g L ∧ ∀ k, S k → ¬ Sd' k := fun gs hg => by
      obtain ⟨S, p1, p2⟩ := h4 gs hg
      exact ⟨S, C.oth p1 q4 p2, fun k hk hd => (q5 k hd).elim (p2 k hk) fun x => by have := C.lt p1 k hk; omega⟩
    have hF : ∀ k, F k → k < w'.heap.size ∧ ¬ Sd' k := fun k hk => ⟨Nat.lt_of_lt_of_le (h5 k hk).1 q4.size, fun hd => (q5 k hd).elim (h5 k hk).2 fun x => by have := (h5 k hk).1; omega⟩
    have hup : ∀ k, Sd' k → w0.heap.size ≤ k := fun k hk => (q5 k hk).elim (h3 k) fun x => Nat.le_trans h1.size x
    refine ⟨gs, rfl, ⟨hlow, Sd', q3, hup, hst, hF⟩, ⟨hlow, Sd', q3, hup, fun gs' hg => ⟨S, by rw [List.mem_singleton.1 hg]; exact q1, q6⟩, hF⟩, fun e => ⟨hlow, Sd', q3, hup, fun gs' hg => ?_, hF⟩, fun k hk => q4.block k (h5 k hk).1 (h5 k hk).2⟩
    rcases List.mem_cons.1 hg with hg | hg
    · exact ⟨S, by rw [hg, ← e]; exact q1, q6⟩
    · exact hst gs' hg
end
end Go.Proofs.YtcmjdepjckhpdabDoor.So
namespace Go.Proofs.YtcmjdepjckhpdabDoor.So
open Go Go.RowKit Kt Kg Wr Lw Sha Dk Dg

structure GO (In : World → (Nat → Prop) → Nat → Nat → List Bs → Prop) (w0 W : World) (gs g : Nat) (x : Ss) (ts t : Nat) (y : Ss) : Prop where
  low : Below w0.heap.size w0 W
  two : ∃ U V, PS In w0 W U gs g x ∧ PS In w0 W V ts t y ∧ (∀ k, U k → k < W.heap.size) ∧ (∀ k, V k → k < W.heap.size) ∧ ∀ k, U k → ¬ V k
section
variable {In : World → (Nat → Prop) → Nat → Nat → List Bs → Prop} {w0 W W' : World} {gs g ts t : Nat} {x y : Ss}
theorem GO.swap (h : GO In w0 W gs g x ts t y) : GO In w0 W ts t y gs g x := by
  obtain ⟨h1, U, V, h2, h3, h4, h5, h6⟩ := h
  exact ⟨h1, V, U, h3, h2, h5, h4, fun k a b => h6 k b a⟩
theorem GO.below (C : Ct w0 In) (h : GO In w0 W gs g x ts t y) (hb : Below W.heap.size W W') : GO In w0 W' gs g x ts t y := by
  obtain ⟨h1, U, V, h2, h3, h4, h5, h6⟩ := h
  exact ⟨h1.trans (hb.mono h1.size), U, V, h2.below C hb, h3.below C hb, fun k hk => Nat.lt_of_lt_of_le (h4 k hk) hb.size, fun k hk => Nat.lt_of_lt_of_le (h5 k hk) hb.size, h6⟩
theorem GO.put (C : Ct w0 In) (h : GO In w0 W gs g x ts t y) (hf : x.s.fit) (b : Bs) (hb : b.length ≤ 1000) (hl : x.L.length ≤ 1000) {wa : World} {q c : Nat} (hba : Below W.heap.size W wa) (hq : W.heap.size ≤ q) (hs : Sl wa (fun z => z = q) (some ⟨q, 0, none⟩) c b) :
    Calls Tryd.prog 8 #[pt gs, .slice (some ⟨q, 0, none⟩) b.length c] wa fun r w' => r = .returned (.tuple #[.string ⟨(So.put x b).2.1.toArray⟩, .int .i64 ((So.put x b).2.2 : Int)]) ∧
      GO In w0 w' gs g (So.put x b).1 ts t y := by
  obtain ⟨h1, U, V, h2, h3, h4, h5, h6⟩ := h
  refine ((h2.below C hba).put C (h1.trans (hba.mono h1.size)) hf b _ _ _ hs (fun k hk hu => by have := h4 k hu; omega) hb hl).mono ?_
  rintro r w' ⟨rfl, q1, q2, q3⟩
  refine ⟨rfl, q3, fun k => k < w'.heap.size ∧ (U k ∨ wa.heap.size ≤ k), V, q1.imp C fun k hk hu => ⟨hk, hu⟩, (h3.below C hba).oth C q2 fun k _ a b => h6 k b a, fun k hk => hk.1, fun k hk => Nat.lt_of_lt_of_le (h5 k hk) (Nat.le_trans hba.size q2.size), fun k a b => ?_⟩
  rcases a.2 with u | u
  · exact h6 k u b
  · have := h5 k b
    have := hba.size
    omega
/-- opened again, a store of whole records is as it was -/
theorem GO.again (C : Ct w0 In) (h : GO In w0 W gs g x ts t y) (hg : Good y) (hd : y.s.dead = false) (hk : y.s.k.length ≤ 4000) :
    Calls Tryd.prog 7 #[pt t] W fun r w' => ∃ ts', r = .returned (.tuple #[pt ts', .int .i64 0]) ∧ GO In w0 w' gs g x ts' t y := by
  obtain ⟨h1, U, V, h2, ⟨S, Sd, p1, p2, p3, p4⟩, h4, h5, h6⟩ := h
  refine (C.opened h1 p2 hg.fit hd (fun k hk => (p3 k (.inr hk)).2) hk).mono ?_
  rintro r w' (⟨q, _⟩ | ⟨_, ts', S', Sd', rfl, q1, q2, q3, q4, q5, q6⟩)
  · rw [hg.opened] at q; exact absurd rfl q
  · rw [hg.opened] at q1 q3
    have hst : (⟨y.s.k.take (recs y.L).length, y.s.room, y.s.fuse, y.s.dead⟩ : Dk.St) = y.s := by
      rw [← hg.alive hd, List.take_length]
    have q3 : DkIn w' Sd' t y.s := by
      have q3 : DkIn w' Sd' t ⟨y.s.k.take (recs y.L).length, y.s.room, y.s.fuse, y.s.dead⟩ := q3
      rwa [hst] at q3
    refine ⟨ts', rfl, oth_low q4 h1 fun k hk => (p3 k (.inr hk)).2, U, fun k => k < w'.heap.size ∧ (V k ∨ W.heap.size ≤ k), h2.oth C q4 fun k _ a b => h6 k a (p3 k (.inr b)).1, ⟨S', Sd', q1, q3, fun k hk => ?_, q6⟩, fun k hk => Nat.lt_of_lt_of_le (h4 k hk) q4.size, fun k hk => hk.1, fun k a b => ?_⟩
    · rcases hk with hk | hk
      · exact ⟨⟨C.lt q1 k hk, .inr (q2 k hk)⟩, Nat.le_trans h1.size (q2 k hk)⟩
      · rcases q5 k hk with z | z
        · exact ⟨⟨q3.lt k hk, .inl (p3 k (.inr z)).1⟩, (p3 k (.inr z)).2⟩
        · exact ⟨⟨q3.lt k hk, .inr z⟩, Nat.le_trans h1.size z⟩
    · rcases b.2 with z | z
      · exact h6 k a z
      · have := h4 k a; omega
theorem GO.bytes (h : GO In w0 W gs g x ts t y) (hf : x.s.fit) : Calls Tryd.prog 10 #[pt g] W fun r w' => ∃ v, r = .returned v ∧ Own w' W.heap.size tU8 v x.s.k ∧ Below W.heap.size W w' := by
  obtain ⟨_, U, V, h2, _⟩ := h
  exact h2.bytes hf
theorem GO.ids (C : Ct w0 In) (h : GO In w0 W gs g x ts t y) (hl : x.L.length ≤ 1000) :
    Calls Tryd.prog 12 #[pt gs] W fun r w' => ∃ v, r = .returned v ∧ OwT w' W.heap.size tId v (x.L.map sha) ∧ Below W.heap.size W w' := by
  obtain ⟨h1, U, V, h2, _⟩ := h
  exact h2.ids C h1 hl
/-- two new stores -/
theorem GO.start {g1 g2 : Nat} {w4 w5 w6 : World} {gs ts : Nat} (C : Ct w0 In) (_hd4 : g1 < w4.heap.size) (hg2 : g2 < w4.heap.size) (hne : g1 ≠ g2) (h5 : PS In w0 w5 (fun k => k < w5.heap.size ∧ (k = g1 ∨ w4.heap.size ≤ k)) gs g1 x)
    (h6 : PS In w0 w6 (fun k => k < w6.heap.size ∧ (k = g2 ∨ w5.heap.size ≤ k)) ts g2 y) (ho : Oth (· = g2) w5 w6) (_h45 : w4.heap.size ≤ w5.heap.size) (hb : Below w0.heap.size w0 w6) : GO In w0 w6 gs g1 x ts g2 y := by
  refine ⟨hb, fun k => k < w5.heap.size ∧ (k = g1 ∨ w4.heap.size ≤ k), fun k => k < w6.heap.size ∧ (k = g2 ∨ w5.heap.size ≤ k), h5.oth C ho fun k _ a (b : k = g2) => ?_, h6, fun k hk => Nat.lt_of_lt_of_le hk.1 ho.size, fun k hk => hk.1, fun k a b => ?_⟩
  · rcases a.2 with z | z
    · exact hne (z.symm.trans b)
    · omega
  · rcases b.2 with z | z
    · rcases a.2 with u | u
      · exact hne (u.symm.trans z)
      · omega
    · have := a.1; omega
end
/-- what holds between two puts -/
structure GoF (x : Ss) (k : Nat) : Prop where
  good : Good x
  plain : Plain x.s
  few : x.L.length ≤ k
  len : x.s.k.length ≤ 65 * k
theorem GoF.put {x : Ss} {k : Nat} {b : Bs} (h : GoF x k) (hb : b.length ≤ 60) : GoF (So.put x b).1 (k + 1) :=
  ⟨h.good.put b, h.plain.so b, by have := put_many (x := x) (b := b); have := h.few; omega, by have := put_len h.good.fit hb; have := h.len; omega⟩
end Go.Proofs.YtcmjdepjckhpdabDoor.So
