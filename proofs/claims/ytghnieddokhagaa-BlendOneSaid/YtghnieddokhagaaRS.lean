/-
  A range over an iterator that keeps where it is in a block of cells of the caller's.
-/
import Derived.RangeFuncNested
import Derived.RangeFuncBound
import Derived.RangeFuncCalls
import Derived.RangeFuncLeaves
import Derived.RangeFuncBox
import Derived.Shelf.Abstract
import Derived.Shelf.RegionOpen
import Derived.WalkKit
import Derived.OwnWalkIn
import Derived.TacticsInMore
import Derived.LoopNIn
import Derived.LoopIn
import Derived.Test.YtghnieddokhagaaKit
namespace Go.Proofs.Ytghnieddokhagaa.Rs
open Go Go.RowKit

/-- a loop's two blocks: the calls that wait, and its record -/
structure Book (D : Nat) (r : Loop) (W : World) : Prop where
  loop : W.heap[D + 1]? = some (.loop r)
  wait : W.heap[D]? = some (.deferred (some []))
section
variable {D : Nat} {r r' : Loop} {A B : World}
theorem Book.put (h : Book D r A) : Book D r' (A.putObj (D + 1) (.loop r')) :=
  ⟨World.putObj_heap_same (Array.getElem?_eq_some_iff.1 h.loop).1, (World.putObj_heap_other (by omega)).trans h.wait⟩
theorem Book.keep (h : Book D r A) (hk : KeepsFrom D A B) : Book D r B := ⟨hk.same _ _ (by omega) h.loop rfl, hk.same _ _ (Nat.le_refl _) h.wait rfl⟩
theorem Book.still {b : Nat} (h : Book D r A) (hb : b < D) (hg : A.grownBy B (some b)) : Book D r B :=
  ⟨(hg.block _ (Array.getElem?_eq_some_iff.1 h.loop).1 (by simp; omega)).trans h.loop, (hg.block _ (Array.getElem?_eq_some_iff.1 h.wait).1 (by simp; omega)).trans h.wait⟩
end
/-- what stays where new blocks come and block b turns -/
def Firm {β : Type} (b : Nat) (J : β → World → Prop) : Prop := ∀ s A B, J s A → A.grownBy B (some b) → J s B
/-- the iterator's contract: it turns its own block b; Kp: what a round that goes on keeps for it -/
def SeqSt {α : Type} (F : Fence) (n : Nat) (P : Program) (g : Nat) (lb : Array Value) (encs : α → Array Value) (b : Nat) (Kp : World → World → Prop) (S Sp : List α → World → Prop) (G : List α → α → Prop) (w : World) : Prop :=
  ∀ (l : Nat) (J Jx : List α → World → Prop) (W : World), Below w.heap.size w W → Firm b J → Firm b Jx →
    (∀ pre x W1, J pre W1 → G pre x → YieldAt F (n - 1) P l (encs x) W1 fun e W' =>
      (e = .returned (.bool true) ∧ J (pre ++ [x]) W' ∧ Kp W1 W') ∨ (e = .returned (.bool false) ∧ Jx (pre ++ [x]) W' ∧ Kp W1 W')) →
    J [] W →
    CallsIn F n P g (#[.func (.yield l) #[] #[]] ++ lb) W fun e W' => (∃ v, e = .returned v) ∧ ((∃ xs, S xs W' ∧ J xs W') ∨ (∃ pre, Sp pre W' ∧ Jx pre W'))
/-- how a round's body is left -/
def left {α : Type} (D : Nat) (Kp : World → World → Prop) (I : List α → World → Prop) (Ix : Nat → List α → World → Prop) (xs : List α) (W : World) : Exit → Act → World → Prop
  | .normal, _, W' => KeepsFrom D W W' ∧ Kp W W' ∧ I xs W'
  | .exit id, _, W' => KeepsFrom D W W' ∧ Kp W W' ∧ Ix id xs W'
  | _, _, _ => False
variable {F : Fence} {n : Nat} {P : Program}
/-- THE LOOP. -/
theorem range_st {α : Type} {g : Operand} {ps : Array Tmp} {assign body : Code} {Q : Exit → Act → World → Prop} {a : Act} {w : World}
    (hro : F.round = none) (h1 : 1 ≤ n) {gf : Nat} {lb : Array Value} (hg : a.eval g = .func (.func gf) #[] lb) (hFg : F.fn gf) (eg : ∀ args w, (callFunc gf args).run P w = .ok (.enter gf args) w)
    {encs : α → Array Value} {b : Nat} {Kp : World → World → Prop} {S Sp : List α → World → Prop} {G : List α → α → Prop} (hb : b < w.heap.size) (hseq : SeqSt F (n - 1) P gf lb encs b Kp S Sp G w)
    (hKt : ∀ {A B C : World}, Kp A B → Kp B C → Kp A C) (hKp : ∀ (W : World) (r : Loop) (o : Obj), W.heap[w.heap.size + 1]? = some (.loop r) → Kp W (W.putObj (w.heap.size + 1) o)) (hps : ∀ x, (encs x).size = ps.size)
    (I : List α → World → Prop) (Ix : Nat → List α → World → Prop) (hI : OwnFrom w.heap.size I) (hIx : ∀ c, OwnFrom w.heap.size (Ix c)) (fI : Firm b I) (fIx : ∀ c, Firm b (Ix c))
    (hS : OwnFrom w.heap.size S) (hSp : OwnFrom w.heap.size Sp) (h0 : I [] w) (Ax : α → Act → World → Prop) (hAx : ∀ x a', OwnFrom w.heap.size (fun (_ : Unit) W => Ax x a' W))
    (hassign : ∀ (l : Nat) (pre : List α) (x : α) (W : World) (K : Act → World → Prop), I pre W → (∀ a' W', KeepsFrom w.heap.size W W' → Kp W W' → I pre W' → Ax x a' W' → K a' W') →
      assign.wpIn (F.inRound l) (n - 1 - 1) P (Exit.then K (fun _ _ _ => False)) { tmps := (ps.zip (encs x)).foldl (fun t (p, v) => t.setIfInBounds p v) a.tmps, defers := [] } W)
    (hbody : ∀ (l : Nat) (pre : List α) (x : α) (a' : Act) (W : World), w.heap.size ≤ l → I pre W → Ax x a' W → G pre x → body.wpIn (F.inRound l) (n - 1 - 1) P (left w.heap.size Kp I Ix (pre ++ [x]) W) a' W)
    (hdone : ∀ (D : Nat) (xs : List α) (W : World), w.heap.size ≤ D → S xs W → I xs W → W.heap[D]? = some (.deferred (some [])) → Q .normal { a with defers := { target := .collected D, args := #[] } :: a.defers } W)
    (hstop : ∀ (D id : Nat) (pre : List α) (W : World), w.heap.size ≤ D → Sp pre W → Ix id pre W → W.heap[D]? = some (.deferred (some [])) → (Code.exit id).wpIn F n P Q { a with defers := { target := .collected D, args := #[] } :: a.defers } W) :
    (Code.rangeFunc g ps assign body).wpIn F n P Q a w := by
  obtain ⟨D, hD⟩ : ∃ D, D = w.heap.size := ⟨_, rfl⟩
  rw [← hD] at hb hKp hI hIx hS hSp hAx hassign hbody hdone hstop
  refine wpIn_rangeFunc fun fn hfn => ?_
  rw [hro]
  obtain ⟨rc, hrc⟩ : ∃ rc : LoopState → Option Code → Loop, rc = fun st pe => { state := st, pending := pe, fn, tmps := a.tmps, params := ps, assign, body, defers := D } := ⟨_, rfl⟩
  have hrs : ∀ st pe, (rc st pe).state = st ∧ (rc st pe).pending = pe := fun st pe => by rw [hrc]; exact ⟨rfl, rfl⟩
  have hrp : ∀ st pe, (rc st pe).params = ps := fun st pe => by rw [hrc]
  have hset : ∀ st pe st', ({ rc st pe with state := st' } : Loop) = rc st' pe := fun st pe st' => by rw [hrc]
  have hset2 : ∀ st pe st' pe', ({ rc st pe with state := st', pending := pe' } : Loop) = rc st' pe' := fun st pe st' pe' => by rw [hrc]
  obtain ⟨W1, hW1⟩ : ∃ W1, (w.alloc (.deferred (some []))).alloc (.loop (rc .ready none)) = W1 := ⟨_, rfl⟩
  have bk : Book D (rc .ready none) W1 := by
    refine ⟨?_, ?_⟩
    · have h := World.alloc_heap_new (w.alloc (.deferred (some []))) (.loop (rc .ready none))
      rw [World.size_alloc, hW1, ← hD] at h
      exact h
    · rw [← hW1, hD]
      exact (Below.heap_alloc _ _ _ (by simp)).trans (World.alloc_heap_new w _)
  have i1 : I [] W1 := by rw [← hW1]; exact hI.alloc _ (hI.alloc _ h0)
  have b1 : Below w.heap.size w W1 := by rw [← hW1]; exact ((Below.refl _ w).alloc (Nat.le_refl _) _).alloc (by simp) _
  refine ⟨D + 1, [{ target := .collected D, args := #[] }], W1, { target := .fn (.func gf) lb, args := #[.func (.yield (D + 1)) #[] #[]] }, W1, gf, #[.func (.yield (D + 1)) #[] #[]] ++ lb, W1, ?_, ?_, ?_, ?_, fun _ => h1, ?_⟩
  · rw [← hW1, hrc, hD]
    exact run_enterLoop_outer _ _ _ _ _
  · simp only [resolve, hg]
    simp [go_sem]
  · intro f' hf'
    simp [Target.leads] at hf'
    rw [← hf']
    exact hFg
  · simp [invoke, go_sem, eg]
  · refine (hseq (D + 1) (fun pre W => I pre W ∧ Book D (rc .ready none) W) (fun pre W => ∃ id, Ix id pre W ∧ Book D (rc .done (some (.exit id))) W) W1 b1
      (fun s A B h hgr => ⟨fI s A B h.1 hgr, h.2.still hb hgr⟩) (fun s A B h hgr => by
        obtain ⟨id, h2, h3⟩ := h
        exact ⟨id, fIx id s A B h2 hgr, h3.still hb hgr⟩) (fun pre x W hJ hlen => ?_) ⟨i1, bk⟩).mono ?_
    · obtain ⟨hi, hbk⟩ := hJ
      have hy := run_yield (P := P) (args := encs x) hbk.loop (by rw [hrp]; exact hps x)
      rw [hrc] at hy
      refine ⟨fn, _, assign, body, hy, roundIn_of_wpIn hfn (hassign _ pre x W _ hi fun a' W2 k2 p2 i2 ax => ?_)⟩
      have bk2 := hbk.keep k2
      refine ⟨_, run_beginRound bk2.loop (hrs _ _).1, ?_⟩
      rw [hset]
      have bk3 := bk2.put (r' := rc .busy none)
      have p3 := hKp W2 _ (.loop (rc .busy none)) bk2.loop
      refine wpIn_mono (hbody _ pre x a' _ (by omega) (hI.putObj _ i2 (by omega) bk2.loop rfl) ((hAx x a').putObj (s := ()) _ ax (by omega) bk2.loop rfl) hlen) ?_
      intro e a3 W3 hp
      have fin : ∀ (jump : Option Code), KeepsFrom D (W2.putObj (D + 1) (.loop (rc .busy none))) W3 → Kp (W2.putObj (D + 1) (.loop (rc .busy none))) W3 →
          (Instr.endRound (D + 1) jump).run P W3 = .ok (.bool jump.isNone) (W3.putObj (D + 1) (.loop (rc (if jump.isNone then .ready else .done) jump))) ∧
          W3.heap[D + 1]? = some (.loop (rc .busy none)) ∧ Book D (rc (if jump.isNone then .ready else .done) jump) (W3.putObj (D + 1) (.loop (rc (if jump.isNone then .ready else .done) jump))) ∧
          Kp W (W3.putObj (D + 1) (.loop (rc (if jump.isNone then .ready else .done) jump))) := fun jump hk hkp => by
        have bk4 := bk3.keep hk
        have hr := run_endRound (P := P) jump bk4.loop
        rw [hset2] at hr
        exact ⟨hr, bk4.loop, bk4.put, hKt p2 (hKt p3 (hKt hkp (hKp W3 _ _ bk4.loop)))⟩
      cases e with
      | normal =>
        obtain ⟨hk3, hkp3, hi3⟩ := hp
        obtain ⟨hr, hl3, hb4, hk4⟩ := fin none hk3 hkp3
        exact ⟨_, _, hr, .inl ⟨rfl, ⟨hI.putObj _ hi3 (by omega) hl3 rfl, hb4⟩, hk4⟩⟩
      | exit id =>
        obtain ⟨hk3, hkp3, hi3⟩ := hp
        obtain ⟨hr, hl3, hb4, hk4⟩ := fin (some (.exit id)) hk3 hkp3
        exact ⟨_, _, hr, .inr ⟨rfl, ⟨id, (hIx id).putObj _ hi3 (by omega) hl3 rfl, hb4⟩, hk4⟩⟩
      | ret => exact hp.elim
      | goto t => exact hp.elim
      | panic ch => exact hp.elim
      | outgrown => exact hp.elim
    · rintro e W2 ⟨⟨v, rfl⟩, (⟨xs, hs, hi, hbk⟩ | ⟨pre, hsp, id, hi, hbk⟩)⟩
      · have hr := run_endLoop (P := P) hbk.loop (by rw [(hrs _ _).1]; simp)
        rw [hset, (hrs _ _).2] at hr
        exact ⟨none, _, hr, hdone D xs _ (Nat.le_refl _) (hS.putObj _ hs (by omega) hbk.loop rfl) (hI.putObj _ hi (by omega) hbk.loop rfl) hbk.put.wait⟩
      · have hr := run_endLoop (P := P) hbk.loop (by rw [(hrs _ _).1]; simp)
        rw [hset, (hrs _ _).2] at hr
        exact ⟨some (.exit id), _, hr, hstop D id pre _ (Nat.le_refl _) (hSp.putObj _ hsp (by omega) hbk.loop rfl) ((hIx id).putObj _ hi (by omega) hbk.loop rfl) hbk.put.wait⟩
end Go.Proofs.Ytghnieddokhagaa.Rs
