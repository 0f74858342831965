/-
  A store by itself: opened anew, put, asked; rows of the law's own that are written.
-/
import Derived.Test.YtcmjdepjckhpdaaDoorZO
namespace Go.Proofs.YtcmjdepjckhpdaaDoor.So
open Go Go.RowKit Kt Kg Wr Lw Sha Dk Dg

theorem Ct.born {w0 w : World} {In : World → (Nat → Prop) → Nat → Nat → List Bs → Prop} (C : Ct w0 In) {Sd : Nat → Prop} {gd n : Nat} (hlow : Below w0.heap.size w0 w) (hd : DkIn w Sd gd (new n)) (hn : n ≤ 16777216) (hup : ∀ k, Sd k → w0.heap.size ≤ k) :
    Calls Tryd.prog 12 #[pt gd] w fun y w' => ∃ gs, y = .returned (.tuple #[pt gs, .int .i64 0]) ∧ PS In w0 w' (fun k => k < w'.heap.size ∧ (Sd k ∨ w.heap.size ≤ k)) gs gd ⟨new n, []⟩ ∧ Below w0.heap.size w0 w' ∧ Oth Sd w w' := by
  refine (C.fresh2 hlow hd hn hup).mono ?_
  rintro y w' ⟨gs, S, Sd', rfl, h1, h2, h3, h4, h5, h6, h7, h8⟩
  exact ⟨gs, rfl, ⟨S, Sd', h1, h2, fun k hk => ⟨⟨hk.elim (C.lt h1 k) (h2.lt k), hk.elim (fun x => .inr (h5 k x)) (h6 k)⟩, h4 k hk⟩, h8⟩, h3, h7⟩
section
variable {In : World → (Nat → Prop) → Nat → Nat → List Bs → Prop} {w0 w : World} {U : Nat → Prop} {gs g : Nat} {x : Ss}
theorem PS.many (C : Ct w0 In) (h : PS In w0 w U gs g x) (hlow : Below w0.heap.size w0 w) (hl : x.L.length ≤ 1000) :
    Calls Tryd.prog 27 #[pt gs] w fun y w' => y = .returned (.int .i64 (x.L.length : Int)) ∧ Below w.heap.size w w' := by
  obtain ⟨S, Sd, h1, _⟩ := h
  exact C.many hlow h1 hl
theorem PS.get (C : Ct w0 In) (h : PS In w0 w U gs g x) (hlow : Below w0.heap.size w0 w) (hl : x.L.length ≤ 1000) (id : Bs) :
    Calls Tryd.prog 26 #[pt gs, .string ⟨id.toArray⟩] w fun y w' => ∃ v, y = .returned (.tuple #[v, .bool (got x.L id).isSome]) ∧ Own w' w.heap.size tU8 v ((got x.L id).getD []) ∧ Below w.heap.size w w' := by
  obtain ⟨S, Sd, h1, _⟩ := h
  exact C.get id hlow h1 hl
theorem PS.ids (C : Ct w0 In) (h : PS In w0 w U gs g x) (hlow : Below w0.heap.size w0 w) (hl : x.L.length ≤ 1000) :
    Calls Tryd.prog 23 #[pt gs] w fun y w' => ∃ v, y = .returned v ∧ OwT w' w.heap.size tId v (x.L.map sha) ∧ Below w.heap.size w w' := by
  obtain ⟨S, Sd, h1, _⟩ := h
  exact C.ids hlow h1 hl
theorem PS.size (h : PS In w0 w U gs g x) : Calls Tryd.prog 28 #[pt g] w fun y w' => y = .returned (.int .i64 (x.s.k.length : Nat)) ∧ w = w' := by
  obtain ⟨S, Sd, _, h2, _⟩ := h
  exact size_any h2
theorem PS.bytes (h : PS In w0 w U gs g x) (hf : x.s.fit) : Calls Tryd.prog 19 #[pt g] w fun y w' => ∃ v, y = .returned v ∧ Own w' w.heap.size tU8 v x.s.k ∧ Below w.heap.size w w' := by
  obtain ⟨S, Sd, _, h2, _⟩ := h
  exact bytes_call h2 hf
/-- another state of the disk -/
theorem PS.disk (C : Ct w0 In) (h : PS In w0 w U gs g x) (hlow : Below w0.heap.size w0 w) {f : Nat} {args : Array Value} {s' : Dk.St} {v : Value} (hc : ∀ Sd, DkIn w Sd g x.s → Calls Tryd.prog f args w fun y w' => y = .returned v ∧ ∃ S', DkIn w' S' g s' ∧ Oth Sd w w' ∧ ∀ k, S' k → Sd k ∨ w.heap.size ≤ k) :
    Calls Tryd.prog f args w fun y w' => y = .returned v ∧ PS In w0 w' (fun k => k < w'.heap.size ∧ (U k ∨ w.heap.size ≤ k)) gs g ⟨s', x.L⟩ ∧ Oth U w w' ∧ Below w0.heap.size w0 w' := by
  obtain ⟨S, Sd, h1, h2, h3, h4⟩ := h
  refine (hc Sd h2).mono ?_
  rintro y w' ⟨rfl, S', q1, q2, q3⟩
  have q4 : ∀ k, S k → k < w.heap.size := C.lt h1
  have h5 := C.oth h1 q2 h4
  refine ⟨rfl, ⟨S, S', h5, q1, fun k hk => ?_, fun k hk hd => (q3 k hd).elim (h4 k hk) fun x => by have := q4 k hk; omega⟩, q2.mono fun k _ hk => (h3 k (.inr hk)).1, oth_low q2 hlow fun k hk => (h3 k (.inr hk)).2⟩
  rcases hk with hk | hk
  · exact ⟨⟨C.lt h5 k hk, .inl (h3 k (.inl hk)).1⟩, (h3 k (.inl hk)).2⟩
  · rcases q3 k hk with y | y
    · exact ⟨⟨q1.lt k hk, .inl (h3 k (.inr y)).1⟩, (h3 k (.inr y)).2⟩
    · exact ⟨⟨q1.lt k hk, .inr y⟩, Nat.le_trans hlow.size y⟩
end
theorem conv_row (s : List UInt8) (w : World) : ∃ cap ob, (convert 9 38 (.string ⟨s.toArray⟩)).run Tryd.prog w = .ok (.slice (some ⟨w.heap.size, 0, none⟩) s.length cap) (w.drew.alloc ob) ∧ Sl (w.drew.alloc ob) (fun b => b = w.heap.size) (some ⟨w.heap.size, 0, none⟩) cap s ∧ ∀ i, i < s.length → (w.drew.alloc ob).frozen? ⟨w.heap.size, i, none⟩ = false := by
  refine ⟨_, _, run_bytes_of_string w 9 38 5 ⟨s.toArray⟩ Tryd.underlying9 Tryd.underlying38 Tryd.underlying5, ⟨?_, fun hn => ⟨_, 0, rfl, rfl, fun j hj => ?_⟩⟩, fun i hi => ?_⟩
  · have := grownCap_ge w (ByteArray.size ⟨s.toArray⟩) 0 5
    simpa [ByteArray.size] using this
  · rw [Nat.zero_add, cell_of_row _ w.heap.size j _ _ _ (heap_alloc_new w.drew _), bytesRow_at _ _ _ (by simpa using hj)]
    simp [List.getElem?_eq_getElem hj]
  · have hb := bytesRow_at ⟨s.toArray⟩ (grownCap w (ByteArray.size ⟨s.toArray⟩) 0 5) i (by simpa using hi)
    have hlt := (Array.getElem?_eq_some_iff.1 hb).1
    have hh := heap_alloc_new w.drew (.cells (bytesRow ⟨s.toArray⟩ (grownCap w (ByteArray.size ⟨s.toArray⟩) 0 5)) 5 ((bytesRow ⟨s.toArray⟩ (grownCap w (ByteArray.size ⟨s.toArray⟩) 0 5)).size, (bytesRow ⟨s.toArray⟩ (grownCap w (ByteArray.size ⟨s.toArray⟩) 0 5)).size + 1))
    unfold World.frozen?
    rw [show w.heap.size = w.drew.heap.size from rfl, hh]
    simp only [Bool.and_eq_false_iff, decide_eq_false_iff_not]
    left
    omega
theorem sl_zero {w : World} {P : Nat → Prop} {q c : Nat} {s : List UInt8} (h : Sl w P (some ⟨q, 0, none⟩) c s) {i : Nat} (hi : i < s.length) : ∃ v, w.cell? ⟨q, i, none⟩ = some v := by
  obtain ⟨b, o, e, _, hc⟩ := h.2 (by omega)
  injection e with e
  injection e with e1 e2 _
  subst e1 e2
  have := hc i hi
  rw [Nat.zero_add] at this
  exact ⟨_, this⟩
theorem row_frozen {w : World} {q i : Nat} {cs : Array Value} {t : TypeId} (h : w.heap[q]? = some (.cells cs t)) : w.frozen? ⟨q, i, none⟩ = false := frozen_of_row w q i cs t h
/-- an own row of bytes, not empty -/
theorem own_at {w : World} {B : Nat} {v : Value} {l : List UInt8} (h : Own w B tU8 v l) (hn : 0 < l.length) : ∃ g c, v = .slice (some ⟨g, 0, none⟩) l.length c ∧ B ≤ g ∧ g < w.heap.size ∧ (∀ i, w.frozen? ⟨g, i, none⟩ = false) ∧ Sl w (fun b => b = g) (some ⟨g, 0, none⟩) c l := by
  obtain ⟨A, c, e, hs⟩ := h.sl
  rcases h.2 with ⟨_, h0⟩ | ⟨g, cap, cur, rfl, hB, hg, _⟩
  · omega
  · injection e with e1 _ e3
    subst e1 e3
    exact ⟨g, cap, rfl, hB, (Array.getElem?_eq_some_iff.1 hg).1, fun i => row_frozen hg, hs.imp fun b _ hb => by simpa [Value.ownBlock] using hb.2.symm⟩
/-- an own row of texts, not empty -/
theorem owt_at {w : World} {B : Nat} {E : TypeId} {v : Value} {l : List Bs} (h : OwT w B E v l) (hn : 0 < l.length) : ∃ g c, v = .slice (some ⟨g, 0, none⟩) l.length c ∧ B ≤ g ∧ g < w.heap.size ∧ (∀ i, w.frozen? ⟨g, i, none⟩ = false) ∧ ∀ k x, l[k]? = some x → w.cell? ⟨g, k, none⟩ = some (.string ⟨x.toArray⟩) := by
  obtain ⟨A, c, e, hs⟩ := h.vs
  rcases h.2 with ⟨_, h0⟩ | ⟨g, cap, cur, rfl, hB, hg, _⟩
  · omega
  · injection e with e1 _ e3
    subst e1 e3
    refine ⟨g, cap, rfl, hB, (Array.getElem?_eq_some_iff.1 hg).1, fun i => row_frozen hg, fun k x hk => ?_⟩
    obtain ⟨b, o, e, _, hc⟩ := vs_at hs hk
    injection e with e
    injection e with e1 e2 _
    subst e1 e2
    rw [Nat.zero_add] at hc
    exact hc
theorem put_fits {x : Bs} (hx : x.length ≤ 60) {n : Nat} (hn : 100 ≤ n) : (put ⟨new n, []⟩ x).1.L = [x] ∧ (put ⟨new n, []⟩ x).2 = (sha x, 0) := by
  have hr := record_len x
  have hf := form_short x.length 1 (by omega) (by omega)
  have h1 : Dk.put (new n) (record x) = (⟨record x, n, -1, false⟩, 0) := by
    unfold Dk.put new
    rw [if_neg (by simp), if_neg (by simp only [List.length_nil]; omega), if_neg (by simp)]
    simp
  unfold put
  rw [if_neg (by omega), if_neg (by simp), h1]
  simp
end Go.Proofs.YtcmjdepjckhpdaaDoor.So
