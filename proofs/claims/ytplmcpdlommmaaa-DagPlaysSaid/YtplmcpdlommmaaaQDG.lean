/-
  What the laws ask of the program's graph.
-/
import Derived.Test.YtplmcpdlommmaaaQDF
import Derived.Test.YtplmcpdlommmaaaQDC
import Derived.Test.YtplmcpdlommmaaaQReg
import Derived.Test.YtplmcpdlommmaaaQXA
import Derived.Test.YtplmcpdlommmaaaXF
namespace Go.Proofs.Ytplmcpdlommmaaa.Dq
open Go Go.RowKit Kt Kg Lw Tr

/-- what the laws ask of the program's graph: In is where it lies in memory -/
structure Cd (w0 : World) (In : World → (Nat → Prop) → Nat → List Nd → Prop) : Prop where
  lt : ∀ {w : World} {S : Nat → Prop} {g : Nat} {D : List Nd}, In w S g D → ∀ k, S k → k < w.heap.size
  move : ∀ {w w' : World} {S : Nat → Prop} {g : Nat} {D : List Nd}, In w S g D → (∀ b, S b → w'.heap[b]? = w.heap[b]?) → w.heap.size ≤ w'.heap.size → In w' S g D
  new : ∀ {w : World}, Below w0.heap.size w0 w → Calls Try.prog 11 #[] w fun y w' => ∃ g S, y = .returned (pt g) ∧ In w' S g [] ∧ (∀ k, S k → w.heap.size ≤ k) ∧ Below w.heap.size w w'
  add : ∀ {w : World} {S : Nat → Prop} {g : Nat} {D : List Nd} (id : Bs) (ps : List Bs) (A : Option Addr) (c : Nat) (Pb : Nat → Prop), Below w0.heap.size w0 w → In w S g D → Okd D → D.length < 40 → (∀ k, S k → w0.heap.size ≤ k) →
    Vs w Pb A c (texts ps) → (∀ k, Pb k → ¬ S k) → id.length ≤ 50 → ps.length ≤ 10 → (∀ p ∈ ps, p.length ≤ 50) →
    Calls Try.prog 12 #[pt g, .string ⟨id.toArray⟩, .slice A ps.length c] w fun y w' => ∃ v S', y = .returned v ∧ OwT w' w.heap.size tId v (Dq.add D id ps).2 ∧ In w' S' g (Dq.add D id ps).1 ∧
      Oth S w w' ∧ (∀ k, S' k → S k ∨ w.heap.size ≤ k) ∧ ∀ k, v.ownBlock = some k → ¬ S' k
  has : ∀ {w : World} {S : Nat → Prop} {g : Nat} {D : List Nd} (id : Bs), Below w0.heap.size w0 w → In w S g D → Okd D → id.length ≤ 50 →
    Calls Try.prog 21 #[pt g, .string ⟨id.toArray⟩] w fun y w' => y = .returned (.bool (Dq.has D id)) ∧ Below w.heap.size w w'
  ids : ∀ {w : World} {S : Nat → Prop} {g : Nat} {D : List Nd}, Below w0.heap.size w0 w → In w S g D → Okd D →
    Calls Try.prog 15 #[pt g] w fun y w' => ∃ v, y = .returned v ∧ OwT w' w.heap.size tId v (all D true) ∧ Below w.heap.size w w'
  many : ∀ {w : World} {S : Nat → Prop} {g : Nat} {D : List Nd}, Below w0.heap.size w0 w → In w S g D → Okd D →
    Calls Try.prog 20 #[pt g] w fun y w' => y = .returned (.int .i64 ((all D true).length : Int)) ∧ Below w.heap.size w w'
  waiting : ∀ {w : World} {S : Nat → Prop} {g : Nat} {D : List Nd}, Below w0.heap.size w0 w → In w S g D → Okd D →
    Calls Try.prog 17 #[pt g] w fun y w' => ∃ v, y = .returned v ∧ OwT w' w.heap.size tId v (all D false) ∧ Below w.heap.size w w'
  lacks : ∀ {w : World} {S : Nat → Prop} {g : Nat} {D : List Nd}, Below w0.heap.size w0 w → In w S g D → Okd D →
    Calls Try.prog 18 #[pt g] w fun y w' => ∃ v, y = .returned v ∧ OwT w' w.heap.size tId v (Dq.lacks D) ∧ Below w.heap.size w w'
  parents : ∀ {w : World} {S : Nat → Prop} {g : Nat} {D : List Nd} (id : Bs), Below w0.heap.size w0 w → In w S g D → Okd D → id.length ≤ 50 →
    Calls Try.prog 25 #[pt g, .string ⟨id.toArray⟩] w fun y w' => ∃ v, y = .returned v ∧ OwT w' w.heap.size tId v (Dq.parents D id) ∧ Below w.heap.size w w'
  level : ∀ {w : World} {S : Nat → Prop} {g : Nat} {D : List Nd} (id : Bs), Below w0.heap.size w0 w → In w S g D → Okd D → id.length ≤ 50 →
    Calls Try.prog 23 #[pt g, .string ⟨id.toArray⟩] w fun y w' => y = .returned (.int .i64 (Dq.level D id)) ∧ Below w.heap.size w w'
  heads : ∀ {w : World} {S : Nat → Prop} {g : Nat} {D : List Nd}, Below w0.heap.size w0 w → In w S g D → Okd D →
    Calls Try.prog 27 #[pt g] w fun y w' => ∃ v, y = .returned v ∧ OwT w' w.heap.size tId v (Dq.heads D) ∧ Below w.heap.size w w'
  above : ∀ {w : World} {S : Nat → Prop} {g : Nat} {D : List Nd} (a b : Bs), Below w0.heap.size w0 w → In w S g D → Okd D → a.length ≤ 50 → b.length ≤ 50 →
    Calls Try.prog 29 #[pt g, .string ⟨a.toArray⟩, .string ⟨b.toArray⟩] w fun y w' => y = .returned (.bool (Dq.above D a b)) ∧ Below w.heap.size w w'
/-- a graph in memory, and blocks that aren't its own -/
structure GD (In : World → (Nat → Prop) → Nat → List Nd → Prop) (w0 W : World) (g : Nat) (D : List Nd) (F : Nat → Prop) : Prop where
  low : Below w0.heap.size w0 W
  ok : Okd D
  at_ : ∃ S, In W S g D ∧ (∀ k, S k → w0.heap.size ≤ k) ∧ ∀ k, F k → k < W.heap.size ∧ ¬ S k
section
variable {In : World → (Nat → Prop) → Nat → List Nd → Prop} {w0 W W' : World} {g : Nat} {D : List Nd} {F : Nat → Prop}
theorem Cd.below (C : Cd w0 In) {S : Nat → Prop} (h : In W S g D) (hb : Below W.heap.size W W') : In W' S g D := C.move h (fun b hs => hb.block b (C.lt h b hs)) hb.size
theorem Cd.oth (C : Cd w0 In) {S T : Nat → Prop} (h : In W S g D) (ho : Oth T W W') (hd : ∀ k, S k → ¬ T k) : In W' S g D := C.move h (fun b hs => ho.block b (C.lt h b hs) (hd b hs)) ho.size
/-- new blocks stay, too -/
theorem GD.below (C : Cd w0 In) (h : GD In w0 W g D F) (hb : Below W.heap.size W W') : GD In w0 W' g D fun k => F k ∨ (W.heap.size ≤ k ∧ k < W'.heap.size) := by
  obtain ⟨h1, h2, S, h3, h4, h5⟩ := h
  refine ⟨h1.trans (hb.mono h1.size), h2, S, C.below h3 hb, h4, fun k hk => ?_⟩
  rcases hk with hk | hk
  · exact ⟨Nat.lt_of_lt_of_le (h5 k hk).1 hb.size, (h5 k hk).2⟩
  · exact ⟨hk.2, fun hs => by have := C.lt h3 k hs; omega⟩
theorem GD.imp {F' : Nat → Prop} (h : GD In w0 W g D F) (hi : ∀ k, F' k → F k) : GD In w0 W g D F' := by
  obtain ⟨h1, h2, S, h3, h4, h5⟩ := h
  exact ⟨h1, h2, S, h3, h4, fun k hk => h5 k (hi k hk)⟩
theorem GD.stay (C : Cd w0 In) (h : GD In w0 W g D F) (hb : Below W.heap.size W W') : GD In w0 W' g D F := (h.below C hb).imp fun _ => .inl
theorem GD.new (C : Cd w0 In) (hlow : Below w0.heap.size w0 W) : Calls Try.prog 11 #[] W fun y w' => ∃ g, y = .returned (pt g) ∧ GD In w0 w' g [] (fun k => k < W.heap.size) ∧ Below W.heap.size W w' := by
  refine (C.new hlow).mono ?_
  rintro y w' ⟨g, S, rfl, h1, h2, h3⟩
  exact ⟨g, rfl, ⟨hlow.trans (h3.mono hlow.size), Okd.nil, S, h1, fun k hk => Nat.le_trans hlow.size (h2 k hk), fun k hk => ⟨Nat.lt_of_lt_of_le hk h3.size, fun hs => by have := h2 k hs; omega⟩⟩, h3⟩
theorem GD.add (C : Cd w0 In) (h : GD In w0 W g D F) (id : Bs) (ps : List Bs) (A : Option Addr) (c : Nat) (Pb : Nat → Prop) (hl : D.length < 40) (hs : Vs W Pb A c (texts ps)) (hp : ∀ k, Pb k → F k ∨ k < w0.heap.size) (hi : id.length ≤ 50) (hq : ps.length ≤ 10 ∧ ∀ p ∈ ps, p.length ≤ 50) :
    Calls Try.prog 12 #[pt g, .string ⟨id.toArray⟩, .slice A ps.length c] W fun y w' => ∃ v, y = .returned v ∧ OwT w' W.heap.size tId v (Dq.add D id ps).2 ∧ GD In w0 w' g (Dq.add D id ps).1 (fun k => F k ∨ v.ownBlock = some k) ∧
      (∀ k, F k → w'.heap[k]? = W.heap[k]?) ∧ (Dq.add D id ps).1.length ≤ D.length + 1 ∧ W.heap.size ≤ w'.heap.size := by
  obtain ⟨h1, h2, S, h3, h4, h5⟩ := h
  refine (C.add id ps A c Pb h1 h3 h2 hl h4 hs (fun k hk hsk => ?_) hi hq.1 hq.2).mono ?_
  · rcases hp k hk with z | z
    · exact (h5 k z).2 hsk
    · have := h4 k hsk; omega
  rintro y w' ⟨v, S', rfl, q1, q2, q3, q4, q5⟩
  have hn : ∀ k, F k → ¬ S' k := fun k hk hsk => (q4 k hsk).elim (h5 k hk).2 fun z => by have := (h5 k hk).1; omega
  refine ⟨v, rfl, q1, ⟨oth_low q3 h1 h4, (h2.add hl hi hq).1, S', q2, fun k hk => (q4 k hk).elim (h4 k) fun z => Nat.le_trans h1.size z, fun k hk => ?_⟩, fun k hk => q3.block k (h5 k hk).1 (h5 k hk).2, (h2.add hl hi hq).2, q3.size⟩
  rcases hk with hk | hk
  · exact ⟨Nat.lt_of_lt_of_le (h5 k hk).1 q3.size, hn k hk⟩
  · exact ⟨(World.ownsRow.lt q1 k hk).2, q5 k hk⟩
theorem GD.has (C : Cd w0 In) (h : GD In w0 W g D F) (id : Bs) (hi : id.length ≤ 50) : Calls Try.prog 21 #[pt g, .string ⟨id.toArray⟩] W fun y w' => y = .returned (.bool (Dq.has D id)) ∧ Below W.heap.size W w' := by
  obtain ⟨h1, h2, S, h3, _⟩ := h
  exact C.has id h1 h3 h2 hi
theorem GD.ids (C : Cd w0 In) (h : GD In w0 W g D F) : Calls Try.prog 15 #[pt g] W fun y w' => ∃ v, y = .returned v ∧ OwT w' W.heap.size tId v (all D true) ∧ Below W.heap.size W w' := by
  obtain ⟨h1, h2, S, h3, _⟩ := h
  exact C.ids h1 h3 h2
theorem GD.many (C : Cd w0 In) (h : GD In w0 W g D F) : Calls Try.prog 20 #[pt g] W fun y w' => y = .returned (.int .i64 ((all D true).length : Int)) ∧ Below W.heap.size W w' := by
  obtain ⟨h1, h2, S, h3, _⟩ := h
  exact C.many h1 h3 h2
theorem GD.waiting (C : Cd w0 In) (h : GD In w0 W g D F) : Calls Try.prog 17 #[pt g] W fun y w' => ∃ v, y = .returned v ∧ OwT w' W.heap.size tId v (all D false) ∧ Below W.heap.size W w' := by
  obtain ⟨h1, h2, S, h3, _⟩ := h
  exact C.waiting h1 h3 h2
theorem GD.lacks (C : Cd w0 In) (h : GD In w0 W g D F) : Calls Try.prog 18 #[pt g] W fun y w' => ∃ v, y = .returned v ∧ OwT w' W.heap.size tId v (Dq.lacks D) ∧ Below W.heap.size W w' := by
  obtain ⟨h1, h2, S, h3, _⟩ := h
  exact C.lacks h1 h3 h2
theorem GD.parents (C : Cd w0 In) (h : GD In w0 W g D F) (id : Bs) (hi : id.length ≤ 50) : Calls Try.prog 25 #[pt g, .string ⟨id.toArray⟩] W fun y w' => ∃ v, y = .returned v ∧ OwT w' W.heap.size tId v (Dq.parents D id) ∧ Below W.heap.size W w' := by
  obtain ⟨h1, h2, S, h3, _⟩ := h
  exact C.parents id h1 h3 h2 hi
theorem GD.level (C : Cd w0 In) (h : GD In w0 W g D F) (id : Bs) (hi : id.length ≤ 50) : Calls Try.prog 23 #[pt g, .string ⟨id.toArray⟩] W fun y w' => y = .returned (.int .i64 (Dq.level D id)) ∧ Below W.heap.size W w' := by
  obtain ⟨h1, h2, S, h3, _⟩ := h
  exact C.level id h1 h3 h2 hi
theorem GD.heads (C : Cd w0 In) (h : GD In w0 W g D F) : Calls Try.prog 27 #[pt g] W fun y w' => ∃ v, y = .returned v ∧ OwT w' W.heap.size tId v (Dq.heads D) ∧ Below W.heap.size W w' := by
  obtain ⟨h1, h2, S, h3, _⟩ := h
  exact C.heads h1 h3 h2
theorem GD.above (C : Cd w0 In) (h : GD In w0 W g D F) (a b : Bs) (ha : a.length ≤ 50) (hb : b.length ≤ 50) : Calls Try.prog 29 #[pt g, .string ⟨a.toArray⟩, .string ⟨b.toArray⟩] W fun y w' => y = .returned (.bool (Dq.above D a b)) ∧ Below W.heap.size W w' := by
  obtain ⟨h1, h2, S, h3, _⟩ := h
  exact C.above a b h1 h3 h2 ha hb
end
end Go.Proofs.Ytplmcpdlommmaaa.Dq
namespace Go.Proofs.Ytplmcpdlommmaaa.Dq
open Go Go.RowKit Kt Kg Lw Tr

abbrev tDag : TypeId := 62
abbrev tMN : TypeId := 57
abbrev tMH : TypeId := 58
abbrev tMW : TypeId := 59
abbrev tMB : TypeId := 60
/-- is it known, but not in? -/
def waits (D : List Nd) (k : Bs) : Bool := (get D k).isSome && !has D k
/-- an id's parents, whether it is in or not -/
def psL (D : List Nd) (k : Bs) : List Bs := ((get D k).map Nd.ps).getD []
theorem psL_of {D : List Nd} (h : Up (D.map Nd.id)) {n : Nd} (hn : n ∈ D) : psL D n.id = n.ps := by unfold psL; rw [get_of h hn]; rfl
theorem waits_of {D : List Nd} (h : Up (D.map Nd.id)) {n : Nd} (hn : n ∈ D) : waits D n.id = !n.on := by unfold waits; rw [get_of h hn, has_of h hn]; rfl
theorem known_if {D : List Nd} {k : Bs} : (get D k).isSome = true ↔ has D k = true ∨ waits D k = true := by
  unfold waits
  cases h : get D k with
  | none => unfold has; rw [h]; simp
  | some n => cases has D k <;> simp
theorem has_known {D : List Nd} {k : Bs} (h : has D k = true) : (get D k).isSome = true := known_if.2 (.inl h)
theorem parents_psL (D : List Nd) (k : Bs) : parents D k = if has D k then psL D k else [] := by
  unfold parents psL has
  cases get D k with
  | none => rfl
  | some n => cases hn : n.on <;> simp [hn]
theorem all_up {D : List Nd} (h : Up (D.map Nd.id)) (b : Bool) : Up (all D b) := List.Pairwise.sublist ((List.filter_sublist (l := D)).map Nd.id) h
theorem heads_up {D : List Nd} (h : Up (D.map Nd.id)) : Up (heads D) := List.Pairwise.sublist ((List.filter_sublist (l := D)).map Nd.id) h
theorem up_nodup {l : List Bs} (h : Up l) : l.Nodup := h.imp fun h e => lt_ne h e
theorem all_in {D : List Nd} (h : Up (D.map Nd.id)) (k : Bs) : k ∈ all D true ↔ has D k = true := by
  rw [has_iff h]
  unfold all
  simp only [List.mem_map, List.mem_filter, beq_iff_eq]
  exact ⟨fun ⟨n, ⟨h1, h2⟩, h3⟩ => ⟨n, h1, h3, h2⟩, fun ⟨n, h1, h3, h2⟩ => ⟨n, ⟨h1, h2⟩, h3⟩⟩
theorem all_wait {D : List Nd} (h : Up (D.map Nd.id)) (k : Bs) : k ∈ all D false ↔ waits D k = true := by
  unfold all
  simp only [List.mem_map, List.mem_filter, beq_iff_eq]
  constructor
  · rintro ⟨n, ⟨h1, h2⟩, rfl⟩
    rw [waits_of h h1, h2]; rfl
  · intro hk
    obtain ⟨n, hn⟩ := Option.isSome_iff_exists.1 (known_if.2 (.inr hk))
    obtain ⟨q1, rfl⟩ := get_some hn
    rw [waits_of h q1] at hk
    exact ⟨n, ⟨q1, by simpa using hk⟩, rfl⟩
theorem srt_up_id {l : List Bs} (h : Up l) : srt l = l := srt_is (up_nodup h) h fun _ => Iff.rfl
theorem ids_short {D : List Nd} (h : Okd D) {k : Bs} (hk : (get D k).isSome = true) : k.length ≤ 50 := by
  obtain ⟨n, hn⟩ := Option.isSome_iff_exists.1 hk
  obtain ⟨q1, rfl⟩ := get_some hn
  exact (h.ids n q1).1
/-! ### The memory -/
/-- the blocks: the graph, its maps, the lists of parents, and the rows of who stands behind -/
structure Pc where
  g : Nat
  a : Nat
  b : Nat
  c : Nat
  d : Nat
  Sp : Nat → Prop
  Sb : Bs → Nat → Prop
/-- the five first ones -/
def Pc.five (p : Pc) (k : Nat) : Prop := k = p.g ∨ k = p.a ∨ k = p.b ∨ k = p.c ∨ k = p.d
def Pc.S (p : Pc) (k : Nat) : Prop := p.five k ∨ p.Sp k ∨ ∃ x, p.Sb x k
structure Pc.Ok (p : Pc) : Prop where
  ga : p.g ≠ p.a
  gb : p.g ≠ p.b
  gc : p.g ≠ p.c
  gd : p.g ≠ p.d
  ab : p.a ≠ p.b
  ac : p.a ≠ p.c
  ad : p.a ≠ p.d
  bc : p.b ≠ p.c
  bd : p.b ≠ p.d
  cd : p.c ≠ p.d
  sp : ∀ k, p.Sp k → ¬ p.five k
  sb : ∀ x k, p.Sb x k → ¬ p.five k ∧ ¬ p.Sp k
  one : ∀ x y k, p.Sb x k → p.Sb y k → x = y
def ndV (s : Option Addr × Nat) (l : List Bs) (x : Nat) : Value := .agg #[.slice s.1 l.length s.2, .int .i64 x]
def unV : Value := .agg #[]
structure Gm (w : World) (p : Pc) (D : List Nd) (sl : Bs → Option Addr × Nat) (su lev : Bs → Nat) (bh : Bs → List Bs) (bv : Bs → Option Value) : Prop where
  ok : p.Ok
  row : w.heap[p.g]? = some (.cells #[.map (some p.a), .map (some p.b), .map (some p.c), .map (some p.d)] tDag (0, 0))
  mN : Mp w p.a fun k => if has D k then some (ndV (sl k) (psL D k) (lev k)) else none
  mH : Mp w p.b fun k => if k ∈ heads D then some unV else none
  mW : Mp w p.c fun k => if waits D k then some (ndV (sl k) (psL D k) (su k)) else none
  mB : Mp w p.d bv
  sls : ∀ k, (get D k).isSome = true → Vs w p.Sp (sl k).1 (sl k).2 (texts (psL D k))
  rows : ∀ k, (bh k = [] ∧ bv k = none) ∨ ∃ v, bv k = some v ∧ OwT w 0 tId v (bh k) ∧ ∀ b, v.ownBlock = some b → p.Sb k b
  lt : ∀ k, p.S k → k < w.heap.size
section
variable {w w' : World} {p : Pc} {D : List Nd} {sl : Bs → Option Addr × Nat} {su lev : Bs → Nat} {bh : Bs → List Bs} {bv : Bs → Option Value}
theorem OwT.moved {B : Nat} {v : Value} {l : List Bs} (h : OwT w B tId v l) (hb : ∀ g, v.ownBlock = some g → w'.heap[g]? = w.heap[g]?) : OwT w' B tId v l := by
  refine ⟨h.1, ?_⟩
  rcases h.2 with k | ⟨g, cap, cur, hv, k1, k2, k3⟩
  · exact .inl k
  · exact .inr ⟨g, cap, cur, hv, k1, (hb g (by rw [hv]; rfl)).trans k2, k3⟩
theorem Gm.move (h : Gm w p D sl su lev bh bv) (hb : ∀ k, p.S k → w'.heap[k]? = w.heap[k]?) (hs : w.heap.size ≤ w'.heap.size) : Gm w' p D sl su lev bh bv :=
  ⟨h.ok, (hb _ (.inl (.inl rfl))).trans h.row, h.mN.move (hb _ (.inl (.inr (.inl rfl)))), h.mH.move (hb _ (.inl (.inr (.inr (.inl rfl))))), h.mW.move (hb _ (.inl (.inr (.inr (.inr (.inl rfl)))))), h.mB.move (hb _ (.inl (.inr (.inr (.inr (.inr rfl)))))),
    fun k hk => (h.sls k hk).move fun b hb' _ => hb b (.inr (.inl hb')),
    fun k => (h.rows k).imp id fun ⟨v, h1, h2, h3⟩ => ⟨v, h1, OwT.moved h2 fun g hg => hb g (.inr (.inr ⟨k, h3 g hg⟩)), h3⟩,
    fun k hk => Nat.lt_of_lt_of_le (h.lt k hk) hs⟩
theorem Gm.below (h : Gm w p D sl su lev bh bv) (hb : Below w.heap.size w w') : Gm w' p D sl su lev bh bv := h.move (fun k hk => hb.block k (h.lt k hk)) hb.size
theorem Gm.cells (h : Gm w p D sl su lev bh bv) : w.cell? ⟨p.g, 0, none⟩ = some (.map (some p.a)) ∧ w.cell? ⟨p.g, 1, none⟩ = some (.map (some p.b)) ∧ w.cell? ⟨p.g, 2, none⟩ = some (.map (some p.c)) ∧ w.cell? ⟨p.g, 3, none⟩ = some (.map (some p.d)) := by
  refine ⟨?_, ?_, ?_, ?_⟩ <;> simp [World.cell?, h.row]
end
theorem fldN0 (A : Option Addr) (n c : Nat) (x : Int) (w : World) : (Instr.field 68 (.agg #[.slice A n c, .int .i64 x]) 0).run Try.prog w = .ok (.slice A n c) w := by kernel_rfl
theorem fldN1 (A : Option Addr) (n c : Nat) (x : Int) (w : World) : (Instr.field 68 (.agg #[.slice A n c, .int .i64 x]) 1).run Try.prog w = .ok (.int .i64 x) w := by kernel_rfl
theorem fldW0 (A : Option Addr) (n c : Nat) (x : Int) (w : World) : (Instr.field 65 (.agg #[.slice A n c, .int .i64 x]) 0).run Try.prog w = .ok (.slice A n c) w := by kernel_rfl
theorem zeroN (w : World) : (zeroValue 68).run Try.prog w = .ok (.agg #[.slice none 0 0, .int .i64 0]) w := by kernel_rfl
theorem zeroW (w : World) : (zeroValue 65).run Try.prog w = .ok (.agg #[.slice none 0 0, .int .i64 0]) w := by kernel_rfl
theorem zeroU (w : World) : (zeroValue 70).run Try.prog w = .ok (.agg #[]) w := by kernel_rfl
theorem zeroB (w : World) : (zeroValue 31).run Try.prog w = .ok (.slice none 0 0) w := by kernel_rfl
section
variable {w : World} {p : Pc} {D : List Nd} {sl : Bs → Option Addr × Nat} {su lev : Bs → Nat} {bh : Bs → List Bs} {bv : Bs → Option Value}
/-- what lies in the map of those that are in, at any id -/
theorem Gm.lookN (h : Gm w p D sl su lev bh bv) (k : Bs) (ok : Bool) : ∃ A n c x, (Instr.lookup tMN (.map (some p.a)) (kS k) ok).run Try.prog w = .ok (if ok then .tuple #[.agg #[.slice A n c, .int .i64 x], .bool (has D k)] else .agg #[.slice A n c, .int .i64 x]) w ∧
    (has D k = true → A = (sl k).1 ∧ c = (sl k).2 ∧ n = (psL D k).length ∧ x = (lev k : Int)) ∧ (has D k = false → A = none ∧ n = 0 ∧ c = 0 ∧ x = 0) := by
  cases hk : has D k with
  | true =>
    have := h.mN.look_some (P := Try.prog) (T := tMN) Try.underlying57 Try.underlying23 (k := k) (v := ndV (sl k) (psL D k) (lev k)) (by simp [hk]) ok
    exact ⟨_, _, _, _, this, fun _ => ⟨rfl, rfl, rfl, rfl⟩, fun h => Bool.noConfusion h⟩
  | false =>
    have := h.mN.look_none (P := Try.prog) (T := tMN) Try.underlying57 Try.underlying23 (zeroN w) (k := k) (by simp [hk]) ok
    exact ⟨none, 0, 0, 0, this, fun h => Bool.noConfusion h, fun _ => ⟨rfl, rfl, rfl, rfl⟩⟩
theorem Gm.lookW (h : Gm w p D sl su lev bh bv) (k : Bs) (ok : Bool) : ∃ A n c x, (Instr.lookup tMW (.map (some p.c)) (kS k) ok).run Try.prog w = .ok (if ok then .tuple #[.agg #[.slice A n c, .int .i64 x], .bool (waits D k)] else .agg #[.slice A n c, .int .i64 x]) w ∧
    (waits D k = true → A = (sl k).1 ∧ c = (sl k).2 ∧ n = (psL D k).length ∧ x = (su k : Int)) ∧ (waits D k = false → A = none ∧ n = 0 ∧ c = 0 ∧ x = 0) := by
  cases hk : waits D k with
  | true =>
    have := h.mW.look_some (P := Try.prog) (T := tMW) Try.underlying59 Try.underlying23 (k := k) (v := ndV (sl k) (psL D k) (su k)) (by simp [hk]) ok
    exact ⟨_, _, _, _, this, fun _ => ⟨rfl, rfl, rfl, rfl⟩, fun h => Bool.noConfusion h⟩
  | false =>
    have := h.mW.look_none (P := Try.prog) (T := tMW) Try.underlying59 Try.underlying23 (zeroW w) (k := k) (by simp [hk]) ok
    exact ⟨none, 0, 0, 0, this, fun h => Bool.noConfusion h, fun _ => ⟨rfl, rfl, rfl, rfl⟩⟩
set_option maxRecDepth 100000 in
set_option maxHeartbeats 1000000 in
theorem phas_any (h : Gm w p D sl su lev bh bv) (id : Bs) : Calls Try.prog 21 #[pt p.g, kS id] w fun y w' => y = .returned (.bool (has D id)) ∧ Below w.heap.size w w' := by
  obtain ⟨c0, _⟩ := h.cells
  obtain ⟨A, n, c, x, hlk, _, _⟩ := h.lookN id true
  generalize has D id = r at *
  simp only [if_true] at hlk
  clear h
  go_enter Try.func21, Try.ntmps21
  go_wp2
  go_ret
  exact ⟨rfl, (Below.refl _ w).alloc (Nat.le_refl _) _⟩
set_option maxRecDepth 100000 in
set_option maxHeartbeats 1000000 in
theorem pwaits_any (h : Gm w p D sl su lev bh bv) (id : Bs) : Calls Try.prog 40 #[pt p.g, kS id] w fun y w' => y = .returned (.bool (waits D id)) ∧ Below w.heap.size w w' := by
  obtain ⟨_, _, c0, _⟩ := h.cells
  obtain ⟨A, n, c, x, hlk, _, _⟩ := h.lookW id true
  generalize waits D id = r at *
  simp only [if_true] at hlk
  clear h
  go_enter Try.func40, Try.ntmps40
  go_wp2
  go_ret
  exact ⟨rfl, (Below.refl _ w).alloc (Nat.le_refl _) _⟩
set_option maxRecDepth 100000 in
set_option maxHeartbeats 1000000 in
theorem pmanyD_any (h : Gm w p D sl su lev bh bv) (hI : Inv D) : Calls Try.prog 20 #[pt p.g] w fun y w' => y = .returned (.int .i64 ((all D true).length : Int)) ∧ Below w.heap.size w w' := by
  obtain ⟨c0, _⟩ := h.cells
  have hlen := fun ty => h.mN.len (P := Try.prog) (T := tMN) Try.underlying57 (all D true) (up_nodup (all_up hI.up true)) (fun k => by rw [all_in hI.up]; cases has D k <;> simp) ty
  generalize (all D true).length = n at *
  clear h
  go_enter Try.func20, Try.ntmps20
  go_wp2
  go_ret
  exact ⟨rfl, Below.refl _ _⟩
theorem Okd.few_all {D : List Nd} (h : Okd D) (b : Bool) : (all D b).length ≤ 1000 := by have := all_len D b; have := h.few; omega
theorem Okd.few_heads {D : List Nd} (h : Okd D) : (heads D).length ≤ 1000 := by
  have : (heads D).length ≤ D.length := by unfold heads; rw [List.length_map]; exact List.length_filter_le _ _
  have := h.few; omega
set_option maxRecDepth 100000 in
set_option maxHeartbeats 1000000 in
theorem pidsD_any (h : Gm w p D sl su lev bh bv) (hK : Okd D) : Calls Try.prog 15 #[pt p.g] w fun y w' => ∃ v, y = .returned v ∧ OwT w' w.heap.size tId v (all D true) ∧ Below w.heap.size w w' := by
  obtain ⟨c0, _⟩ := h.cells
  have hu := all_up hK.inv.up true
  have HR := hide (risingN_any h.mN (all D true) (up_nodup hu) (fun k => by rw [all_in hK.inv.up]; cases has D k <;> simp) (fun k hk => by have := ids_short hK (has_known ((all_in hK.inv.up k).1 hk)); omega) (hK.few_all true))
  rw [srt_up_id hu] at HR
  clear h hu
  go_enter Try.func15, Try.ntmps15
  go_wp2_with fail
  refine HR.out.mono ?_
  rintro y w1 ⟨v, rfl, h1, h2⟩
  have H1 := hide h1
  have H2 := hide h2
  clear h1 h2 HR
  go_wp2
  go_ret
  exact ⟨_, rfl, H1.out, H2.out⟩
set_option maxRecDepth 100000 in
set_option maxHeartbeats 1000000 in
theorem pwaiting_any (h : Gm w p D sl su lev bh bv) (hK : Okd D) : Calls Try.prog 17 #[pt p.g] w fun y w' => ∃ v, y = .returned v ∧ OwT w' w.heap.size tId v (all D false) ∧ Below w.heap.size w w' := by
  obtain ⟨_, _, c0, _⟩ := h.cells
  have hu := all_up hK.inv.up false
  have HR := hide (risingW_any h.mW (all D false) (up_nodup hu) (fun k => by rw [all_wait hK.inv.up]; cases waits D k <;> simp) (fun k hk => by have := ids_short hK (known_if.2 (.inr ((all_wait hK.inv.up k).1 hk))); omega) (hK.few_all false))
  rw [srt_up_id hu] at HR
  clear h hu
  go_enter Try.func17, Try.ntmps17
  go_wp2_with fail
  refine HR.out.mono ?_
  rintro y w1 ⟨v, rfl, h1, h2⟩
  have H1 := hide h1
  have H2 := hide h2
  clear h1 h2 HR
  go_wp2
  go_ret
  exact ⟨_, rfl, H1.out, H2.out⟩
set_option maxRecDepth 100000 in
set_option maxHeartbeats 1000000 in
theorem pheads_any (h : Gm w p D sl su lev bh bv) (hK : Okd D) : Calls Try.prog 27 #[pt p.g] w fun y w' => ∃ v, y = .returned v ∧ OwT w' w.heap.size tId v (heads D) ∧ Below w.heap.size w w' := by
  obtain ⟨_, c0, _, _⟩ := h.cells
  have hu := heads_up hK.inv.up
  have HR := hide (risingU_any h.mH (heads D) (up_nodup hu) (fun k => by by_cases e : k ∈ heads D <;> simp [e]) (fun k hk => by have := ids_short hK (has_known ((heads_mem hK.inv.up).1 hk).1); omega) hK.few_heads)
  rw [srt_up_id hu] at HR
  clear h hu
  go_enter Try.func27, Try.ntmps27
  go_wp2_with fail
  refine HR.out.mono ?_
  rintro y w1 ⟨v, rfl, h1, h2⟩
  have H1 := hide h1
  have H2 := hide h2
  clear h1 h2 HR
  go_wp2
  go_ret
  exact ⟨_, rfl, H1.out, H2.out⟩
set_option maxRecDepth 100000 in
set_option maxHeartbeats 1000000 in
theorem pparents_any (h : Gm w p D sl su lev bh bv) (hK : Okd D) (id : Bs) : Calls Try.prog 25 #[pt p.g, kS id] w fun y w' => ∃ v, y = .returned v ∧ OwT w' w.heap.size tId v (parents D id) ∧ Below w.heap.size w w' := by
  obtain ⟨c0, _⟩ := h.cells
  obtain ⟨A, n, c, x, hlk, q1, q2⟩ := h.lookN id false
  simp only [Bool.false_eq_true, if_false] at hlk
  have HC := hide (show Calls Try.prog 41 #[.slice A n c] w fun y w' => ∃ v, y = .returned v ∧ OwT w' w.heap.size tId v (parents D id) ∧ Below w.heap.size w w' from by
    rw [parents_psL]
    cases hk : has D id with
    | true =>
      obtain ⟨rfl, rfl, rfl, _⟩ := q1 hk
      rw [if_pos rfl]
      obtain ⟨n, hn⟩ := Option.isSome_iff_exists.1 (has_known hk)
      have hle : (psL D id).length ≤ 1000000 := by
        unfold psL; rw [hn]
        have := (hK.ids n (get_some hn).1).2.1
        show n.ps.length ≤ 1000000
        omega
      exact clone_ids (h.sls id (has_known hk)) hle
    | false =>
      obtain ⟨rfl, rfl, rfl, _⟩ := q2 hk
      rw [if_neg (by simp)]
      exact clone_ids (l := []) (S := fun _ => True) ⟨Nat.zero_le _, fun h => by simp [texts] at h⟩ (by simp))
  have hf := fldN0 A n c x
  clear h q1 q2
  go_enter Try.func25, Try.ntmps25
  go_wp2_with fail
  refine HC.out.mono ?_
  rintro y w1 ⟨v, rfl, h1, h2⟩
  have H1 := hide h1
  have H2 := hide h2
  clear h1 h2 HC
  go_wp2
  go_ret
  exact ⟨_, rfl, H1.out, H2.out⟩
set_option maxRecDepth 100000 in
set_option maxHeartbeats 1000000 in
theorem plevel_any (h : Gm w p D sl su lev bh bv) (hK : Okd D) (hL : Lv D lev) (id : Bs) : Calls Try.prog 23 #[pt p.g, kS id] w fun y w' => y = .returned (.int .i64 (level D id)) ∧ Below w.heap.size w w' := by
  have HH := hide (phas_any h id)
  cases hk : has D id with
  | true =>
    rw [level_in hk, hL.eq hK.inv hk]
    have HG := hide h
    have HK := hide hk
    rw [hk] at HH
    obtain ⟨x, hx⟩ : ∃ x, x = lev id := ⟨_, rfl⟩
    rw [← hx]
    have HX := hide hx
    clear hx
    clear h hK hL hk
    go_enter Try.func23, Try.ntmps23
    go_wp2_with fail
    refine HH.out.mono ?_
    rintro y w1 ⟨rfl, hb⟩
    have h1 := HG.out.below hb
    obtain ⟨c0, _⟩ := h1.cells
    obtain ⟨A, n, c, x2, hlk, q1, _⟩ := h1.lookN id false
    simp only [Bool.false_eq_true, if_false] at hlk
    obtain ⟨rfl, rfl, rfl, rfl⟩ := q1 HK.out
    have HB := hide hb
    generalize (psL D id).length = n at hlk
    generalize (sl id).1 = A at hlk
    generalize (sl id).2 = c at hlk
    rw [← HX.out] at hlk
    have hf := fldN1 A n c (x : Int)
    clear h1 q1 hb HH
    go_wp2
    go_ret
    exact ⟨rfl, HB.out⟩
  | false =>
    rw [level_out hk]
    rw [hk] at HH
    clear h hK hL hk
    go_enter Try.func23, Try.ntmps23
    go_wp2_with fail
    refine HH.out.mono ?_
    rintro y w1 ⟨rfl, hb⟩
    have HB := hide hb
    clear hb HH
    go_wp2
    go_ret
    exact ⟨rfl, HB.out⟩
end
end Go.Proofs.Ytplmcpdlommmaaa.Dq
