/-
  Words for a world's blocks, of this verifier's own: a block that is just these cells; a list of bytes, or of numbers, as cells. No program is named here.
-/
import Derived.WalkKit
import Derived.ProofKit
import Derived.Deep.Draws
import Derived.Deep.QuietTactic
import Derived.BigQuiet
import Derived.BigRegion
import Derived.Deep.MidRow
import Derived.Deep.AppendLies
import Derived.Laws.CopyOwn
import Derived.StillTailTactics
import Derived.OrdersHeld
import Derived.Tactics
import Derived.Deep.RegionHeld3
namespace Go.Proofs.YtnehgogajghefaaDoor.Kt
open Go Go.RowKit

theorem hide {p : Prop} (h : p) : Hid p := h
/-- block g is just the cells cs, of element type t, and none is frozen -/
def Row (w : World) (g : Nat) (t : TypeId) (cs : List Value) : Prop := w.heap[g]? = some (.cells cs.toArray t (0, 0))
def u8s (l : List UInt8) : List Value := l.map fun n : UInt8 => .int .u8 (n.toNat : Int)
theorem u8s_len (l : List UInt8) : (u8s l).length = l.length := by simp [u8s]
theorem u8s_get (l : List UInt8) (i : Nat) (h : i < l.length) : (u8s l)[i]? = some (.int .u8 ((l.getD i 0).toNat : Int)) := by
  simp [u8s, List.getElem?_eq_getElem h]
section
variable {w w' : World} {g : Nat} {t : TypeId} {cs : List Value}
theorem Row.lt (h : Row w g t cs) : g < w.heap.size := by
  rcases Nat.lt_or_ge g w.heap.size with hlt | hge
  · exact hlt
  · unfold Row at h; rw [Array.getElem?_eq_none hge] at h; cases h
theorem Row.cell (h : Row w g t cs) (i : Nat) : w.cell? ⟨g, i, none⟩ = cs[i]? := by
  rw [cell_of_row w g i cs.toArray t (0, 0) h]; simp
theorem Row.free (h : Row w g t cs) (i : Nat) : w.frozen? ⟨g, i, none⟩ = false := frozen_of_row w g i cs.toArray t h
theorem Row.fresh (w : World) (t : TypeId) (cs : Array Value) : Row (w.alloc (.cells cs t)) w.heap.size t cs.toList := by
  unfold Row; rw [heap_alloc_new]
theorem Row.drew (h : Row w g t cs) : Row w.drew g t cs := h
theorem Row.drewN (h : Row w g t cs) (n : Nat) : Row (w.drewN n) g t cs := h
theorem Row.alloc (h : Row w g t cs) (o : Obj) : Row (w.alloc o) g t cs := (Below.heap_alloc w o g h.lt).trans h
theorem Row.put (h : Row w g t cs) (i : Nat) (u : Value) : Row (w.setCell ⟨g, i, none⟩ u) g t (cs.set i u) := by
  unfold Row at h ⊢
  simp [World.setCell, Array.getElem?_modify, h]
theorem Row.far (h : Row w g t cs) {p : Addr} (hp : g ≠ p.block) (u : Value) : Row (w.setCell p u) g t cs := (Below.heap_setCell w p u g hp).trans h
theorem Row.new (w : World) {g : Nat} (t : TypeId) {cs : Array Value} {l : List Value} (hg : g = w.heap.size) (hc : cs.toList = l) : Row (w.alloc (.cells cs t)) g t l := by
  subst hg hc; exact Row.fresh w t cs
theorem Row.off (h : Row w g t cs) {g' i : Nat} (hp : g ≠ g') (u : Value) : Row (w.setCell ⟨g', i, none⟩ u) g t cs := h.far (p := ⟨g', i, none⟩) hp u
theorem below_put {B : Nat} {a w : World} (h : Below B a w) {g i : Nat} (hp : B ≤ g) (u : Value) : Below B a (w.setCell ⟨g, i, none⟩ u) := h.setCell (p := ⟨g, i, none⟩) hp u
theorem Row.all (h : Row w g t cs) (l : List Value) : Row (w.setRow g l.toArray) g t l := setRow_heap w g _ _ t (0, 0) h
theorem Row.below {B : Nat} (h : Row w g t cs) (hb : Below B w w') (hg : g < B) : Row w' g t cs := (hb.block g hg).trans h
theorem Row.grown {r : Option Nat} (h : Row w g t cs) (hb : w.grownBy w' r) (hg : some g ≠ r) : Row w' g t cs := (hb.block g h.lt hg).trans h
theorem below_drewN {B : Nat} {a w : World} (h : Below B a w) (n : Nat) : Below B a (w.drewN n) := ⟨h.os, h.tape, h.output, h.size, h.block⟩
end

/-- the slice '.slice A n c' reads as these bytes, which lie in a block of which P holds -/
def Sl (w : World) (P : Nat → Prop) (A : Option Addr) (c : Nat) (bs : List UInt8) : Prop :=
  bs.length ≤ c ∧ (0 < bs.length → ∃ b o, A = some ⟨b, o, none⟩ ∧ P b ∧ ∀ j, j < bs.length → w.cell? ⟨b, o + j, none⟩ = some (.int .u8 ((bs.getD j 0).toNat : Int)))
theorem Sl.nil (w : World) (P : Nat → Prop) (A : Option Addr) (c : Nat) : Sl w P A c [] := ⟨Nat.zero_le _, fun h => by simp at h⟩
theorem Sl.imp {w : World} {P Q : Nat → Prop} {A : Option Addr} {c : Nat} {bs : List UInt8} (h : Sl w P A c bs) (hi : ∀ b, b < w.heap.size → P b → Q b) : Sl w Q A c bs :=
  ⟨h.1, fun hn => by
    obtain ⟨b, o, rfl, hp, hc⟩ := h.2 hn
    exact ⟨b, o, rfl, hi b (World.block_lt_of_cell? w ⟨b, o + 0, none⟩ (hc 0 hn)) hp, hc⟩⟩
theorem Sl.bound {w : World} {P : Nat → Prop} {A : Option Addr} {c : Nat} {bs : List UInt8} (h : Sl w P A c bs) : Sl w (fun b => P b ∧ b < w.heap.size) A c bs := h.imp fun _ hb hp => ⟨hp, hb⟩
theorem Sl.move {w w' : World} {P : Nat → Prop} {A : Option Addr} {c : Nat} {bs : List UInt8} (h : Sl w P A c bs) (hk : ∀ b, P b → b < w.heap.size → w'.heap[b]? = w.heap[b]?) : Sl w' P A c bs :=
  ⟨h.1, fun hn => by
    obtain ⟨b, o, rfl, hp, hc⟩ := h.2 hn
    refine ⟨b, o, rfl, hp, fun j hj => ?_⟩
    rw [World.cell?_of_block (w := w) (a := ⟨b, o + j, none⟩) (hk b hp (World.block_lt_of_cell? w ⟨b, o + j, none⟩ (hc j hj)))]
    exact hc j hj⟩
theorem Sl.drew {w : World} {P : Nat → Prop} {A : Option Addr} {c : Nat} {bs : List UInt8} (h : Sl w P A c bs) : Sl w.drew P A c bs := h
theorem Sl.drewN {w : World} {P : Nat → Prop} {A : Option Addr} {c : Nat} {bs : List UInt8} (h : Sl w P A c bs) (n : Nat) : Sl (w.drewN n) P A c bs := h
theorem Sl.cut {w : World} {P : Nat → Prop} {A : Option Addr} {c k : Nat} {bs : List UInt8} (h : Sl w P A c bs) (hk : k ≤ bs.length) : Sl w P (if c = k then A else A.map (·.add k)) (c - k) (bs.drop k) := by
  refine ⟨by have := h.1; rw [List.length_drop]; omega, fun hn => ?_⟩
  rw [List.length_drop] at hn
  obtain ⟨b, o, rfl, hp, hc⟩ := h.2 (by omega)
  have := h.1
  rw [if_neg (by omega)]
  refine ⟨b, o + k, by simp [Addr.add_mid], hp, fun j hj => ?_⟩
  rw [List.length_drop] at hj
  have := hc (k + j) (by omega)
  rw [show o + (k + j) = o + k + j from by omega] at this
  rw [this]
  simp [List.getD_eq_getElem?_getD, List.getElem?_drop]
theorem Sl.cells {w : World} {P : Nat → Prop} {A : Option Addr} {c : Nat} {bs : List UInt8} (h : Sl w P A c bs) (hn : 0 < bs.length) : ∃ b o, A = some ⟨b, o, none⟩ ∧ P b ∧ ∀ j u, (u8s bs)[j]? = some u → w.cell? ⟨b, o + j, none⟩ = some u := by
  obtain ⟨b, o, rfl, hp, hc⟩ := h.2 hn
  refine ⟨b, o, rfl, hp, fun j u hu => ?_⟩
  have hj : j < bs.length := by have := (List.getElem?_eq_some_iff.1 hu).1; rwa [u8s_len] at this
  rw [hc j hj, ← hu, u8s_get _ _ hj]

/-- a list of bytes in a row of the call's own (E: the number of the type uint8) -/
def Own (w : World) (B : Nat) (E : TypeId) (v : Value) (l : List UInt8) : Prop := w.ownsRow B E 1 v l.length (u8s l)
theorem Own.lit (w : World) (B : Nat) (E : TypeId) (l : List UInt8) (c : Array Value) (hc : c = (u8s l).toArray) (hB : B ≤ w.heap.size) (hl : l.length ≤ maxLen) :
    Own (w.alloc (.cells c E)) B E (.slice (some ⟨w.heap.size, 0, none⟩) l.length l.length) l := by
  subst hc
  have := World.ownsRow_lit (e := E) (size := 1) (base := B) w (u8s l).toArray l.length hB hl (by simp [u8s_len])
  simpa [Own] using this
theorem Own.alloc {w : World} {B : Nat} {E : TypeId} {v : Value} {l : List UInt8} (h : Own w B E v l) (o : Obj) : Own (w.alloc o) B E v l := World.ownsRow.alloc h o
theorem Own.form {w : World} {B : Nat} {E : TypeId} {v : Value} {l : List UInt8} (h : Own w B E v l) (hn : 0 < l.length) : ∃ g cap, v = .slice (some ⟨g, 0, none⟩) l.length cap ∧ B ≤ g ∧ g < w.heap.size := World.ownsRow.form h hn

theorem Own.below {w w' : World} {B : Nat} {E : TypeId} {v : Value} {l : List UInt8} (h : Own w B E v l) {B' : Nat} (hb : Below B' w w') (hv : ∀ g, v.ownBlock = some g → g < B') : Own w' B E v l := by
  refine ⟨h.1, ?_⟩
  rcases h.2 with ⟨h1, h2⟩ | ⟨g, cap, cur, hv', h1, h2, h3⟩
  · exact .inl ⟨h1, h2⟩
  · exact .inr ⟨g, cap, cur, hv', h1, (hb.block g (hv g (by rw [hv']; rfl))).trans h2, h3⟩
theorem Own.kept {w w' : World} {B : Nat} {E : TypeId} {v : Value} {l : List UInt8} (h : Own w B E v l) (hb : Below w.heap.size w w') : Own w' B E v l :=
  h.below hb fun g hg => (World.ownsRow.lt h g hg).2
theorem Own.drew {w : World} {B : Nat} {E : TypeId} {v : Value} {l : List UInt8} (h : Own w B E v l) : Own w.drew B E v l := h
theorem Own.drewN {w : World} {B : Nat} {E : TypeId} {v : Value} {l : List UInt8} (h : Own w B E v l) (n : Nat) : Own (w.drewN n) B E v l := h
theorem Own.cells {w : World} {B : Nat} {E : TypeId} {g c : Nat} {l : List UInt8} (h : Own w B E (.slice (some ⟨g, 0, none⟩) l.length c) l) (j : Nat) (hj : j < l.length) : w.cell? ⟨g, j, none⟩ = some (.int .u8 ((l.getD j 0).toNat : Int)) := by
  have := World.ownsRow.cellAt h j (by omega)
  rw [this, u8s_get _ _ hj]
theorem Own.sl {w : World} {B : Nat} {E : TypeId} {v : Value} {l : List UInt8} (h : Own w B E v l) : ∃ A c, v = .slice A l.length c ∧ Sl w (fun b => B ≤ b ∧ v.ownBlock = some b) A c l := by
  rcases h.2 with ⟨rfl, h0⟩ | ⟨g, cap, cur, rfl, hB, hg, hnc, hcm, hs, ht⟩
  · have e : l = [] := List.eq_nil_of_length_eq_zero h0
    subst e
    exact ⟨none, 0, rfl, Sl.nil _ _ _ _⟩
  · exact ⟨_, cap, rfl, hnc, fun _ => ⟨g, 0, rfl, ⟨hB, rfl⟩, fun j hj => by rw [Nat.zero_add]; exact Own.cells (c := cap) h j hj⟩⟩
theorem Own.nil (w : World) (B : Nat) (E : TypeId) : Own w B E (.slice none 0 0) [] := World.ownsRow_nil w B E 1
theorem grownBy_back {W w : World} (o : Obj) {r : Option Nat} (h : (W.alloc o).grownBy w r) : W.grownBy w r :=
  ⟨h.os, h.tape, h.output, Nat.le_trans (by simp) h.size, fun k hk hne => (h.block k (by simp; omega) hne).trans (Below.heap_alloc W o k hk)⟩

theorem grown_put {a w : World} {g i : Nat} (h : a.grownBy w (some g)) (u : Value) : a.grownBy (w.setCell ⟨g, i, none⟩ u) (some g) :=
  ⟨h.os, h.tape, h.output, by simpa [World.setCell] using h.size, fun k hk hne => (Below.heap_setCell w ⟨g, i, none⟩ u k (fun e => hne (by rw [e]))).trans (h.block k hk hne)⟩
def lenOf : Value → Nat | .slice _ n _ => n | _ => 0
/-- string(b): the bytes of a row of the call's own -/
theorem Own.text {P : Program} {w : World} {B : Nat} {E : TypeId} {v : Value} {l : List UInt8} (h : Own w B E v l) (src dst e : TypeId) (hs : P.underlying src = some (.slice e)) (he : P.underlying e = some (.int .u8)) (hd : P.underlying dst = some .string) :
    (convert src dst v).run P w = .ok (.string ⟨l.toArray⟩) w := by
  obtain ⟨A, c, rfl, hl⟩ := h.sl
  by_cases h0 : l = []
  · subst h0
    rw [run_convert_bytes_string w src dst e A _ c hs he hd]
    cases A <;> rfl
  · have hn : 0 < l.length := List.length_pos_iff.2 h0
    obtain ⟨b, o, rfl, _, hc⟩ := hl.2 hn
    exact run_convert_bytes_back w src dst e ⟨b, o, none⟩ c l hs he hd (fun j hj => by rw [Addr.add_mid, hc j hj]; simp [List.getElem?_eq_getElem hj])
theorem toNat_lt (b : UInt8) : b.toNat < 256 := by have := b.toBitVec.isLt; simpa using this
end Go.Proofs.YtnehgogajghefaaDoor.Kt
namespace Go.Proofs.YtnehgogajghefaaDoor.Rg
open Go

section
variable {P : Program} {ops : Array Oper} {Q : Exit → Act → World → Prop} {S : World → Prop}

/-- does operation j wait for k? -/
def waits (ops : Array Oper) (j k : Nat) : Bool := ((ops[j]?).map fun o => o.after.any fun e => Region.binds .any e && e.on == k).getD false
/-- does operation j wait for all others, or for one that does? -/
def sink (ops : Array Oper) (j : Nat) : Bool :=
  (List.range ops.size).all fun k => k == j || waits ops j k || (List.range ops.size).any fun i => waits ops j i && waits ops i k
/-- is what the listed ones wait for listed too? -/
def closed (ops : Array Oper) (listed : Array Bool) : Bool := (List.range ops.size).all fun j => !listed.getD j false || (List.range ops.size).all fun k => !waits ops j k || listed.getD k false
def Closed (ops : Array Oper) (listed : Array Bool) : Prop := ∀ j k, waits ops j k = true → listed.getD j false = true → listed.getD k false = true
theorem waits_spec {j k : Nat} {oj : Oper} (hj : ops[j]? = some oj) (h : waits ops j k = true) : ∃ e ∈ oj.after, Region.binds .any e = true ∧ e.on = k := by
  simp only [waits, hj, Option.map_some, Option.getD_some] at h
  obtain ⟨e, he, hb⟩ := Array.any_eq_true'.1 h
  simp only [Bool.and_eq_true, beq_iff_eq] at hb
  exact ⟨e, he, hb.1, hb.2⟩
theorem waits_lt {j k : Nat} (h : waits ops j k = true) : j < ops.size := by
  rcases Nat.lt_or_ge j ops.size with h' | h'
  · exact h'
  · simp [waits, Array.getElem?_eq_none h'] at h
theorem closed_spec {listed : Array Bool} (h : closed ops listed = true) (hk : ∀ j k, waits ops j k = true → k < ops.size) : Closed ops listed := by
  intro j k hw hl
  have h1 := List.all_eq_true.1 h j (List.mem_range.2 (waits_lt hw))
  simp only [hl, Bool.not_true, Bool.false_or] at h1
  have h2 := List.all_eq_true.1 h1 k (List.mem_range.2 (hk j k hw))
  simpa [hw] using h2
theorem closed_set {listed : Array Bool} {j : Nat} (h : Closed ops listed) (hj : j ∈ Region.ready .any ops listed) : Closed ops (listed.setIfInBounds j true) := by
  intro a b hw hl
  obtain ⟨_, oj, hoj, hall⟩ := mem_ready.1 hj
  by_cases e : j = a
  · subst e
    obtain ⟨e, he, hb, rfl⟩ := waits_spec hoj hw
    exact getD_set_true (hall e he hb)
  · rw [getD_set_ne false e] at hl
    exact getD_set_true (h a b hw hl)
theorem sink_spec {j k : Nat} {listed : Array Bool} (hc : Closed ops listed) (hj : j ∈ Region.ready .any ops listed) (h : sink ops j = true) (hk : k < ops.size) (hne : k ≠ j) : listed.getD k false = true := by
  obtain ⟨_, oj, hoj, hall⟩ := mem_ready.1 hj
  have h1 := List.all_eq_true.1 h k (List.mem_range.2 hk)
  simp only [Bool.or_eq_true, beq_iff_eq] at h1
  rcases h1 with (h1 | h1) | h1
  · exact absurd h1 hne
  · obtain ⟨e, he, hb, rfl⟩ := waits_spec hoj h1
    exact hall e he hb
  · obtain ⟨i, _, hi⟩ := List.any_eq_true.1 h1
    simp only [Bool.and_eq_true] at hi
    obtain ⟨e, he, hb, rfl⟩ := waits_spec hoj hi.1
    exact hc _ _ hi.2 (hall e he hb)

def wpAnyS (P : Program) (ops : Array Oper) (Q : Exit → Act → World → Prop) (S : World → Prop) : Nat → Array Bool → Act → World → Prop
  | 0, listed, a, w => Region.ready .any ops listed = [] ∧ Q .normal a w
  | fuel + 1, listed, a, w =>
    (Region.ready .any ops listed = [] → Q .normal a w) ∧
    ∀ i ∈ Region.ready .any ops listed, wpOp P ops Q i (fun a' w' => (sink ops i = false → S w') ∧ wpAnyS P ops Q S fuel (listed.setIfInBounds i true) a' w') a w

theorem any_of_S : ∀ (fuel : Nat) (listed : Array Bool) (a : Act) (w : World), wpAnyS P ops Q S fuel listed a w → wpAny P .any ops Q fuel listed a w
  | 0, _, _, _, h => h
  | fuel + 1, _, _, _, h => ⟨h.1, fun i hi => wpOp_mono (fun a' w' h' => any_of_S fuel _ a' w' h'.2) (h.2 i hi)⟩

theorem S_first {i : Nat} {oi : Oper} {v : Value} (hi : ops[i]? = some oi) (hsel : ∀ (j : Nat) (o : Oper) cs b, ops[j]? = some o → o.op ≠ .select cs b)
    (hQ : ∀ c a w, Q (.panic c) (a.put oi.dst v) w → Q (.panic c) a w) :
    ∀ (fuel : Nat) (listed : Array Bool) (a : Act) (w : World),
      (∀ j oj, ops[j]? = some oj → j ≠ i → listed.getD j true = false → (∀ e ∈ oj.after, Region.binds .any e = true → e.on ≠ i) → oi.apart ops oj = true) →
      i ∈ Region.ready .any ops listed → Closed ops listed → YieldsIf P ops S oi v a → S w →
      wpAnyS P ops Q S fuel (listed.setIfInBounds i true) (a.put oi.dst v) w → wpAnyS P ops Q S (fuel + 1) listed a w := by
  intro fuel
  induction fuel with
  | zero =>
    intro listed a w _ hr _ hy hS H
    refine ⟨fun h => (by rw [h] at hr; cases hr), fun j hj => ?_⟩
    by_cases hji : j = i
    · subst hji; exact hy.wpOp hi hS ⟨fun _ => hS, H⟩
    · have := ready_mono hj hji
      rw [H.1] at this
      cases this
  | succ fuel ih =>
    intro listed a w hfree hr hcl hy hS H
    refine ⟨fun h => (by rw [h] at hr; cases hr), fun j hj => ?_⟩
    by_cases hji : j = i
    · subst hji; exact hy.wpOp hi hS ⟨fun _ => hS, H⟩
    · have h1 := H.2 j (ready_mono hj hji)
      obtain ⟨hjun, oj, hoj, hall⟩ := mem_ready.1 hj
      have hnot : ∀ e ∈ oj.after, Region.binds .any e = true → e.on ≠ i := fun e he hb heq => by
        have h1 := hall e he hb
        have h0 := (mem_ready.1 hr).1
        rw [heq] at h1
        rcases Nat.lt_or_ge i listed.size with h' | h'
        · simp [h'] at h0 h1; rw [h0] at h1; cases h1
        · simp [Array.getElem?_eq_none h'] at h1
      have hsink : sink ops j = false := by
        cases hs : sink ops j with
        | false => rfl
        | true =>
          have h0 := (mem_ready.1 hr).1
          have h1 := sink_spec hcl hj hs (Array.getElem?_eq_some_iff.1 hi).1 (Ne.symm hji)
          rcases Nat.lt_or_ge i listed.size with h' | h'
          · simp [h'] at h0 h1; rw [h0] at h1; cases h1
          · simp [Array.getElem?_eq_none h'] at h1
      have h2 := wpOp_putIf hoj (hfree j oj hoj hji hjun hnot) (fun cs b => hsel i oi cs b hi) (fun cs b => hsel j oj cs b hoj) hQ hy h1
      have hfree' : ∀ k ok, ops[k]? = some ok → k ≠ i → (listed.setIfInBounds j true).getD k true = false →
          (∀ e ∈ ok.after, Region.binds .any e = true → e.on ≠ i) → oi.apart ops ok = true := fun k ok hk hki hun hno => by
        refine hfree k ok hk hki ?_ hno
        by_cases hjk : j = k
        · subst hjk; exact hjun
        · rw [getD_set_ne true hjk] at hun; exact hun
      refine wpOp_mono (fun a' w' h3 => ⟨fun _ => h3.2.1 hsink, ih (listed.setIfInBounds j true) a' w' hfree' (ready_mono hr (Ne.symm hji)) (closed_set hcl hj) h3.1 (h3.2.1 hsink) ?_⟩) h2
      rw [Array.setIfInBounds_comm _ _ hji]
      exact h3.2.2

def inside (ops : Array Oper) : Bool := ops.all fun o => o.after.all fun e => e.on < ops.size
theorem inside_spec (h : inside ops = true) (j k : Nat) (hw : waits ops j k = true) : k < ops.size := by
  have hj : ops[j]? = some (ops[j]'(waits_lt hw)) := Array.getElem?_eq_getElem _
  obtain ⟨e, he, _, rfl⟩ := waits_spec hj hw
  have h1 := Array.all_eq_true_iff_forall_mem.1 h _ (Array.getElem_mem (waits_lt hw))
  have h2 := Array.all_eq_true_iff_forall_mem.1 h1 e he
  simpa using h2
end
end Go.Proofs.YtnehgogajghefaaDoor.Rg
