/-
  What the laws ask of the program's graph.
-/
import Derived.Test.YtlfncnnfpniigaaDF
import Derived.Test.YtlfncnnfpniigaaDH
namespace Go.Proofs.Ytlfncnnfpniigaa.Dq
open Go Go.RowKit Kt Kg Lw Tr

/-- what the laws ask of the program's graph: In is where it lies in memory -/
structure Cd (w0 : World) (In : World → (Nat → Prop) → Nat → List Nd → Prop) : Prop where
  lt : ∀ {w : World} {S : Nat → Prop} {g : Nat} {D : List Nd}, In w S g D → ∀ k, S k → k < w.heap.size
  move : ∀ {w w' : World} {S : Nat → Prop} {g : Nat} {D : List Nd}, In w S g D → (∀ b, S b → w'.heap[b]? = w.heap[b]?) → w.heap.size ≤ w'.heap.size → In w' S g D
  new : ∀ {w : World}, Below w0.heap.size w0 w → Calls Try.prog 10 #[] w fun y w' => ∃ g S, y = .returned (pt g) ∧ In w' S g [] ∧ (∀ k, S k → w.heap.size ≤ k) ∧ Below w.heap.size w w'
  add : ∀ {w : World} {S : Nat → Prop} {g : Nat} {D : List Nd} (id : Bs) (ps : List Bs) (A : Option Addr) (c : Nat) (Pb : Nat → Prop), Below w0.heap.size w0 w → In w S g D → Okd D → D.length < 20 → (∀ k, S k → w0.heap.size ≤ k) →
    Vs w Pb A c (texts ps) → (∀ k, Pb k → ¬ S k) → id.length ≤ 40 → ps.length ≤ 6 → (∀ p ∈ ps, p.length ≤ 40) →
    Calls Try.prog 11 #[pt g, .string ⟨id.toArray⟩, .slice A ps.length c] w fun y w' => ∃ v S', y = .returned v ∧ OwT w' w.heap.size tId v (Dq.add D id ps).2 ∧ In w' S' g (Dq.add D id ps).1 ∧
      Oth S w w' ∧ (∀ k, S' k → S k ∨ w.heap.size ≤ k) ∧ ∀ k, v.ownBlock = some k → ¬ S' k
  has : ∀ {w : World} {S : Nat → Prop} {g : Nat} {D : List Nd} (id : Bs), Below w0.heap.size w0 w → In w S g D → Okd D → id.length ≤ 40 →
    Calls Try.prog 20 #[pt g, .string ⟨id.toArray⟩] w fun y w' => y = .returned (.bool (Dq.has D id)) ∧ Below w.heap.size w w'
  ids : ∀ {w : World} {S : Nat → Prop} {g : Nat} {D : List Nd}, Below w0.heap.size w0 w → In w S g D → Okd D →
    Calls Try.prog 14 #[pt g] w fun y w' => ∃ v, y = .returned v ∧ OwT w' w.heap.size tId v (all D true) ∧ Below w.heap.size w w'
  many : ∀ {w : World} {S : Nat → Prop} {g : Nat} {D : List Nd}, Below w0.heap.size w0 w → In w S g D → Okd D →
    Calls Try.prog 19 #[pt g] w fun y w' => y = .returned (.int .i64 ((all D true).length : Int)) ∧ Below w.heap.size w w'
  waiting : ∀ {w : World} {S : Nat → Prop} {g : Nat} {D : List Nd}, Below w0.heap.size w0 w → In w S g D → Okd D →
    Calls Try.prog 16 #[pt g] w fun y w' => ∃ v, y = .returned v ∧ OwT w' w.heap.size tId v (all D false) ∧ Below w.heap.size w w'
  lacks : ∀ {w : World} {S : Nat → Prop} {g : Nat} {D : List Nd}, Below w0.heap.size w0 w → In w S g D → Okd D →
    Calls Try.prog 17 #[pt g] w fun y w' => ∃ v, y = .returned v ∧ OwT w' w.heap.size tId v (Dq.lacks D) ∧ Below w.heap.size w w'
  parents : ∀ {w : World} {S : Nat → Prop} {g : Nat} {D : List Nd} (id : Bs), Below w0.heap.size w0 w → In w S g D → Okd D → id.length ≤ 40 →
    Calls Try.prog 24 #[pt g, .string ⟨id.toArray⟩] w fun y w' => ∃ v, y = .returned v ∧ OwT w' w.heap.size tId v (Dq.parents D id) ∧ Below w.heap.size w w'
  level : ∀ {w : World} {S : Nat → Prop} {g : Nat} {D : List Nd} (id : Bs), Below w0.heap.size w0 w → In w S g D → Okd D → id.length ≤ 40 →
    Calls Try.prog 22 #[pt g, .string ⟨id.toArray⟩] w fun y w' => y = .returned (.int .i64 (Dq.level D id)) ∧ Below w.heap.size w w'
  heads : ∀ {w : World} {S : Nat → Prop} {g : Nat} {D : List Nd}, Below w0.heap.size w0 w → In w S g D → Okd D →
    Calls Try.prog 26 #[pt g] w fun y w' => ∃ v, y = .returned v ∧ OwT w' w.heap.size tId v (Dq.heads D) ∧ Below w.heap.size w w'
  above : ∀ {w : World} {S : Nat → Prop} {g : Nat} {D : List Nd} (a b : Bs), Below w0.heap.size w0 w → In w S g D → Okd D → a.length ≤ 40 → b.length ≤ 40 →
    Calls Try.prog 28 #[pt g, .string ⟨a.toArray⟩, .string ⟨b.toArray⟩] w fun y w' => y = .returned (.bool (Dq.above D a b)) ∧ Below w.heap.size w w'
/-- a graph in memory, and blocks that aren't its own -/
structure GD (In : World → (Nat → Prop) → Nat → List Nd → Prop) (w0 W : World) (g : Nat) (D : List Nd) (F : Nat → Prop) : Prop where
  low : Below w0.heap.size w0 W
  ok : Okd D
  at_ : ∃ S, In W S g D ∧ (∀ k, S k → w0.heap.size ≤ k) ∧ ∀ k, F k → k < W.heap.size ∧ ¬ S k
section
variable {In : World → (Nat → Prop) → Nat → List Nd → Prop} {w0 W W' : World} {g : Nat} {D : List Nd} {F : Nat → Prop}
theorem Cd.below (C : Cd w0 In) {S : Nat → Prop} (h : In W S g D) (hb : Below W.heap.size W W') : In W' S g D := C.move h (fun b hs => hb.block b (C.lt h b hs)) hb.size
theorem Cd.oth (C : Cd w0 In) {S T : Nat → Prop} (h : In W S g D) (ho : Oth T W W') (hd : ∀ k, S k → ¬ T k) : In W' S g D := C.move h (fun b hs => ho.block b (C.lt h b hs) (hd b hs)) ho.size
/-- new blocks stay, too -/
theorem GD.below (C : Cd w0 In) (h : GD In w0 W g D F) (hb : Below W.heap.size W W') : GD In w0 W' g D fun k => F k ∨ (W.heap.size ≤ k ∧ k < W'.heap.size) := by
  obtain ⟨h1, h2, S, h3, h4, h5⟩ := h
  refine ⟨h1.trans (hb.mono h1.size), h2, S, C.below h3 hb, h4, fun k hk => ?_⟩
  rcases hk with hk | hk
  · exact ⟨Nat.lt_of_lt_of_le (h5 k hk).1 hb.size, (h5 k hk).2⟩
  · exact ⟨hk.2, fun hs => by have := C.lt h3 k hs; omega⟩
theorem GD.imp {F' : Nat → Prop} (h : GD In w0 W g D F) (hi : ∀ k, F' k → F k) : GD In w0 W g D F' := by
  obtain ⟨h1, h2, S, h3, h4, h5⟩ := h
  exact ⟨h1, h2, S, h3, h4, fun k hk => h5 k (hi k hk)⟩
theorem GD.stay (C : Cd w0 In) (h : GD In w0 W g D F) (hb : Below W.heap.size W W') : GD In w0 W' g D F := (h.below C hb).imp fun _ => .inl
theorem GD.new (C : Cd w0 In) (hlow : Below w0.heap.size w0 W) : Calls Try.prog 10 #[] W fun y w' => ∃ g, y = .returned (pt g) ∧ GD In w0 w' g [] (fun k => k < W.heap.size) ∧ Below W.heap.size W w' := by
  refine (C.new hlow).mono ?_
  rintro y w' ⟨g, S, rfl, h1, h2, h3⟩
  exact ⟨g, rfl, ⟨hlow.trans (h3.mono hlow.size), Okd.nil, S, h1, fun k hk => Nat.le_trans hlow.size (h2 k hk), fun k hk => ⟨Nat.lt_of_lt_of_le hk h3.size, fun hs => by have := h2 k hs; omega⟩⟩, h3⟩
theorem GD.add (C : Cd w0 In) (h : GD In w0 W g D F) (id : Bs) (ps : List Bs) (A : Option Addr) (c : Nat) (Pb : Nat → Prop) (hl : D.length < 20) (hs : Vs W Pb A c (texts ps)) (hp : ∀ k, Pb k → F k ∨ k < w0.heap.size) (hi : id.length ≤ 40) (hq : ps.length ≤ 6 ∧ ∀ p ∈ ps, p.length ≤ 40) :
    Calls Try.prog 11 #[pt g, .string ⟨id.toArray⟩, .slice A ps.length c] W fun y w' => ∃ v, y = .returned v ∧ OwT w' W.heap.size tId v (Dq.add D id ps).2 ∧ GD In w0 w' g (Dq.add D id ps).1 (fun k => F k ∨ v.ownBlock = some k) ∧
      (∀ k, F k → w'.heap[k]? = W.heap[k]?) ∧ (Dq.add D id ps).1.length ≤ D.length + 1 ∧ W.heap.size ≤ w'.heap.size := by
  obtain ⟨h1, h2, S, h3, h4, h5⟩ := h
  refine (C.add id ps A c Pb h1 h3 h2 hl h4 hs (fun k hk hsk => ?_) hi hq.1 hq.2).mono ?_
  · rcases hp k hk with z | z
    · exact (h5 k z).2 hsk
    · have := h4 k hsk; omega
  rintro y w' ⟨v, S', rfl, q1, q2, q3, q4, q5⟩
  have hn : ∀ k, F k → ¬ S' k := fun k hk hsk => (q4 k hsk).elim (h5 k hk).2 fun z => by have := (h5 k hk).1; omega
  refine ⟨v, rfl, q1, ⟨oth_low q3 h1 h4, (h2.add hl hi hq).1, S', q2, fun k hk => (q4 k hk).elim (h4 k) fun z => Nat.le_trans h1.size z, fun k hk => ?_⟩, fun k hk => q3.block k (h5 k hk).1 (h5 k hk).2, (h2.add hl hi hq).2, q3.size⟩
  rcases hk with hk | hk
  · exact ⟨Nat.lt_of_lt_of_le (h5 k hk).1 q3.size, hn k hk⟩
  · exact ⟨(World.ownsRow.lt q1 k hk).2, q5 k hk⟩
theorem GD.has (C : Cd w0 In) (h : GD In w0 W g D F) (id : Bs) (hi : id.length ≤ 40) : Calls Try.prog 20 #[pt g, .string ⟨id.toArray⟩] W fun y w' => y = .returned (.bool (Dq.has D id)) ∧ Below W.heap.size W w' := by
  obtain ⟨h1, h2, S, h3, _⟩ := h
  exact C.has id h1 h3 h2 hi
theorem GD.ids (C : Cd w0 In) (h : GD In w0 W g D F) : Calls Try.prog 14 #[pt g] W fun y w' => ∃ v, y = .returned v ∧ OwT w' W.heap.size tId v (all D true) ∧ Below W.heap.size W w' := by
  obtain ⟨h1, h2, S, h3, _⟩ := h
  exact C.ids h1 h3 h2
theorem GD.many (C : Cd w0 In) (h : GD In w0 W g D F) : Calls Try.prog 19 #[pt g] W fun y w' => y = .returned (.int .i64 ((all D true).length : Int)) ∧ Below W.heap.size W w' := by
  obtain ⟨h1, h2, S, h3, _⟩ := h
  exact C.many h1 h3 h2
theorem GD.waiting (C : Cd w0 In) (h : GD In w0 W g D F) : Calls Try.prog 16 #[pt g] W fun y w' => ∃ v, y = .returned v ∧ OwT w' W.heap.size tId v (all D false) ∧ Below W.heap.size W w' := by
  obtain ⟨h1, h2, S, h3, _⟩ := h
  exact C.waiting h1 h3 h2
theorem GD.lacks (C : Cd w0 In) (h : GD In w0 W g D F) : Calls Try.prog 17 #[pt g] W fun y w' => ∃ v, y = .returned v ∧ OwT w' W.heap.size tId v (Dq.lacks D) ∧ Below W.heap.size W w' := by
  obtain ⟨h1, h2, S, h3, _⟩ := h
  exact C.lacks h1 h3 h2
theorem GD.parents (C : Cd w0 In) (h : GD In w0 W g D F) (id : Bs) (hi : id.length ≤ 40) : Calls Try.prog 24 #[pt g, .string ⟨id.toArray⟩] W fun y w' => ∃ v, y = .returned v ∧ OwT w' W.heap.size tId v (Dq.parents D id) ∧ Below W.heap.size W w' := by
  obtain ⟨h1, h2, S, h3, _⟩ := h
  exact C.parents id h1 h3 h2 hi
theorem GD.level (C : Cd w0 In) (h : GD In w0 W g D F) (id : Bs) (hi : id.length ≤ 40) : Calls Try.prog 22 #[pt g, .string ⟨id.toArray⟩] W fun y w' => y = .returned (.int .i64 (Dq.level D id)) ∧ Below W.heap.size W w' := by
  obtain ⟨h1, h2, S, h3, _⟩ := h
  exact C.level id h1 h3 h2 hi
theorem GD.heads (C : Cd w0 In) (h : GD In w0 W g D F) : Calls Try.prog 26 #[pt g] W fun y w' => ∃ v, y = .returned v ∧ OwT w' W.heap.size tId v (Dq.heads D) ∧ Below W.heap.size W w' := by
  obtain ⟨h1, h2, S, h3, _⟩ := h
  exact C.heads h1 h3 h2
theorem GD.above (C : Cd w0 In) (h : GD In w0 W g D F) (a b : Bs) (ha : a.length ≤ 40) (hb : b.length ≤ 40) : Calls Try.prog 28 #[pt g, .string ⟨a.toArray⟩, .string ⟨b.toArray⟩] W fun y w' => y = .returned (.bool (Dq.above D a b)) ∧ Below W.heap.size W w' := by
  obtain ⟨h1, h2, S, h3, _⟩ := h
  exact C.above a b h1 h3 h2 ha hb
end
end Go.Proofs.Ytlfncnnfpniigaa.Dq
