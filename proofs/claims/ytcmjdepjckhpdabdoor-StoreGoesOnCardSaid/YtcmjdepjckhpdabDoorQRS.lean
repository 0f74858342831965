/-
  A range over an iterator that keeps where it is in a block of cells of the caller's.
-/
import Derived.RangeFuncNested
import Derived.RangeFuncBound
import Derived.RangeFuncCalls
import Derived.RangeFuncLeaves
import Derived.RangeFuncBox
import Derived.Shelf.Abstract
import Derived.Shelf.RegionOpen
import Derived.WalkKit
import Derived.OwnWalkIn
import Derived.TacticsInMore
import Derived.LoopNIn
import Derived.LoopIn
import Derived.Test.YtcmjdepjckhpdabDoorKit
import Derived.Test.YtcmjdepjckhpdabDoorQZP
import Derived.Sort.QuietIn
import Derived.Laws.ResultCell
import Derived.Scope
import Derived.ControlIn
import Derived.Laws.Rows
import Derived.Test.YtcmjdepjckhpdabDoorQSE
import Derived.Test.YtcmjdepjckhpdabDoorRows
import Derived.Test.YtcmjdepjckhpdabDoorLaw
import Derived.Test.YtcmjdepjckhpdabDoorQWS
import Derived.LaidSub
import Derived.Deep.DeepHandedRow
import Derived.Lib.LaidTab
namespace Go.Proofs.YtcmjdepjckhpdabDoor.Rs
open Go Go.RowKit

/-- a loop's two blocks: the calls that wait, and its record -/
structure Book (D : Nat) (r : Loop) (W : World) : Prop where
  loop : W.heap[D + 1]? = some (.loop r)
  wait : W.heap[D]? = some (.deferred (some []))
section
variable {D : Nat} {r r' : Loop} {A B : World}
theorem Book.put (h : Book D r A) : Book D r' (A.putObj (D + 1) (.loop r')) :=
  ⟨World.putObj_heap_same (Array.getElem?_eq_some_iff.1 h.loop).1, (World.putObj_heap_other (by omega)).trans h.wait⟩
theorem Book.keep (h : Book D r A) (hk : KeepsFrom D A B) : Book D r B := ⟨hk.same _ _ (by omega) h.loop rfl, hk.same _ _ (Nat.le_refl _) h.wait rfl⟩
theorem Book.still {b : Nat} (h : Book D r A) (hb : b < D) (hg : A.grownBy B (some b)) : Book D r B :=
  ⟨(hg.block _ (Array.getElem?_eq_some_iff.1 h.loop).1 (by simp; omega)).trans h.loop, (hg.block _ (Array.getElem?_eq_some_iff.1 h.wait).1 (by simp; omega)).trans h.wait⟩
end
/-- what stays where new blocks come and block b turns -/
def Firm {β : Type} (b : Nat) (J : β → World → Prop) : Prop := ∀ s A B, J s A → A.grownBy B (some b) → J s B
/-- the iterator's contract: it turns its own block b; Kp: what a round that goes on keeps for it -/
def SeqSt {α : Type} (F : Fence) (n : Nat) (P : Program) (g : Nat) (lb : Array Value) (encs : α → Array Value) (b : Nat) (Kp : World → World → Prop) (S Sp : List α → World → Prop) (G : List α → α → Prop) (w : World) : Prop :=
  ∀ (l : Nat) (J Jx : List α → World → Prop) (W : World), Below w.heap.size w W → Firm b J → Firm b Jx →
    (∀ pre x W1, J pre W1 → G pre x → YieldAt F (n - 1) P l (encs x) W1 fun e W' =>
      (e = .returned (.bool true) ∧ J (pre ++ [x]) W' ∧ Kp W1 W') ∨ (e = .returned (.bool false) ∧ Jx (pre ++ [x]) W' ∧ Kp W1 W')) →
    J [] W →
    CallsIn F n P g (#[.func (.yield l) #[] #[]] ++ lb) W fun e W' => (∃ v, e = .returned v) ∧ ((∃ xs, S xs W' ∧ J xs W') ∨ (∃ pre, Sp pre W' ∧ Jx pre W'))
/-- how a round's body is left -/
def left {α : Type} (D : Nat) (Kp : World → World → Prop) (I : List α → World → Prop) (Ix : Nat → List α → World → Prop) (xs : List α) (W : World) : Exit → Act → World → Prop
  | .normal, _, W' => KeepsFrom D W W' ∧ Kp W W' ∧ I xs W'
  | .exit id, _, W' => KeepsFrom D W W' ∧ Kp W W' ∧ Ix id xs W'
  | _, _, _ => False
variable {F : Fence} {n : Nat} {P : Program}
/-- THE LOOP. -/
theorem range_st {α : Type} {g : Operand} {ps : Array Tmp} {assign body : Code} {Q : Exit → Act → World → Prop} {a : Act} {w : World}
    (hro : F.round = none) (h1 : 1 ≤ n) {gf : Nat} {lb : Array Value} (hg : a.eval g = .func (.func gf) #[] lb) (hFg : F.fn gf) (eg : ∀ args w, (callFunc gf args).run P w = .ok (.enter gf args) w)
    {encs : α → Array Value} {b : Nat} {Kp : World → World → Prop} {S Sp : List α → World → Prop} {G : List α → α → Prop} (hb : b < w.heap.size) (hseq : SeqSt F (n - 1) P gf lb encs b Kp S Sp G w)
    (hKt : ∀ {A B C : World}, Kp A B → Kp B C → Kp A C) (hKp : ∀ (W : World) (r : Loop) (o : Obj), W.heap[w.heap.size + 1]? = some (.loop r) → Kp W (W.putObj (w.heap.size + 1) o)) (hps : ∀ x, (encs x).size = ps.size)
    (I : List α → World → Prop) (Ix : Nat → List α → World → Prop) (hI : OwnFrom w.heap.size I) (hIx : ∀ c, OwnFrom w.heap.size (Ix c)) (fI : Firm b I) (fIx : ∀ c, Firm b (Ix c))
    (hS : OwnFrom w.heap.size S) (hSp : OwnFrom w.heap.size Sp) (h0 : I [] w) (Ax : α → Act → World → Prop) (hAx : ∀ x a', OwnFrom w.heap.size (fun (_ : Unit) W => Ax x a' W))
    (hassign : ∀ (l : Nat) (pre : List α) (x : α) (W : World) (K : Act → World → Prop), I pre W → (∀ a' W', KeepsFrom w.heap.size W W' → Kp W W' → I pre W' → Ax x a' W' → K a' W') →
      assign.wpIn (F.inRound l) (n - 1 - 1) P (Exit.then K (fun _ _ _ => False)) { tmps := (ps.zip (encs x)).foldl (fun t (p, v) => t.setIfInBounds p v) a.tmps, defers := [] } W)
    (hbody : ∀ (l : Nat) (pre : List α) (x : α) (a' : Act) (W : World), w.heap.size ≤ l → I pre W → Ax x a' W → G pre x → body.wpIn (F.inRound l) (n - 1 - 1) P (left w.heap.size Kp I Ix (pre ++ [x]) W) a' W)
    (hdone : ∀ (D : Nat) (xs : List α) (W : World), w.heap.size ≤ D → S xs W → I xs W → W.heap[D]? = some (.deferred (some [])) → Q .normal { a with defers := { target := .collected D, args := #[] } :: a.defers } W)
    (hstop : ∀ (D id : Nat) (pre : List α) (W : World), w.heap.size ≤ D → Sp pre W → Ix id pre W → W.heap[D]? = some (.deferred (some [])) → (Code.exit id).wpIn F n P Q { a with defers := { target := .collected D, args := #[] } :: a.defers } W) :
    (Code.rangeFunc g ps assign body).wpIn F n P Q a w := by
  obtain ⟨D, hD⟩ : ∃ D, D = w.heap.size := ⟨_, rfl⟩
  rw [← hD] at hb hKp hI hIx hS hSp hAx hassign hbody hdone hstop
  refine wpIn_rangeFunc fun fn hfn => ?_
  rw [hro]
  obtain ⟨rc, hrc⟩ : ∃ rc : LoopState → Option Code → Loop, rc = fun st pe => { state := st, pending := pe, fn, tmps := a.tmps, params := ps, assign, body, defers := D } := ⟨_, rfl⟩
  have hrs : ∀ st pe, (rc st pe).state = st ∧ (rc st pe).pending = pe := fun st pe => by rw [hrc]; exact ⟨rfl, rfl⟩
  have hrp : ∀ st pe, (rc st pe).params = ps := fun st pe => by rw [hrc]
  have hset : ∀ st pe st', ({ rc st pe with state := st' } : Loop) = rc st' pe := fun st pe st' => by rw [hrc]
  have hset2 : ∀ st pe st' pe', ({ rc st pe with state := st', pending := pe' } : Loop) = rc st' pe' := fun st pe st' pe' => by rw [hrc]
  obtain ⟨W1, hW1⟩ : ∃ W1, (w.alloc (.deferred (some []))).alloc (.loop (rc .ready none)) = W1 := ⟨_, rfl⟩
  have bk : Book D (rc .ready none) W1 := by
    refine ⟨?_, ?_⟩
    · have h := World.alloc_heap_new (w.alloc (.deferred (some []))) (.loop (rc .ready none))
      rw [World.size_alloc, hW1, ← hD] at h
      exact h
    · rw [← hW1, hD]
      exact (Below.heap_alloc _ _ _ (by simp)).trans (World.alloc_heap_new w _)
  have i1 : I [] W1 := by rw [← hW1]; exact hI.alloc _ (hI.alloc _ h0)
  have b1 : Below w.heap.size w W1 := by rw [← hW1]; exact ((Below.refl _ w).alloc (Nat.le_refl _) _).alloc (by simp) _
  refine ⟨D + 1, [{ target := .collected D, args := #[] }], W1, { target := .fn (.func gf) lb, args := #[.func (.yield (D + 1)) #[] #[]] }, W1, gf, #[.func (.yield (D + 1)) #[] #[]] ++ lb, W1, ?_, ?_, ?_, ?_, fun _ => h1, ?_⟩
  · rw [← hW1, hrc, hD]
    exact run_enterLoop_outer _ _ _ _ _
  · simp only [resolve, hg]
    simp [go_sem]
  · intro f' hf'
    simp [Target.leads] at hf'
    rw [← hf']
    exact hFg
  · simp [invoke, go_sem, eg]
  · refine (hseq (D + 1) (fun pre W => I pre W ∧ Book D (rc .ready none) W) (fun pre W => ∃ id, Ix id pre W ∧ Book D (rc .done (some (.exit id))) W) W1 b1
      (fun s A B h hgr => ⟨fI s A B h.1 hgr, h.2.still hb hgr⟩) (fun s A B h hgr => by
        obtain ⟨id, h2, h3⟩ := h
        exact ⟨id, fIx id s A B h2 hgr, h3.still hb hgr⟩) (fun pre x W hJ hlen => ?_) ⟨i1, bk⟩).mono ?_
    · obtain ⟨hi, hbk⟩ := hJ
      have hy := run_yield (P := P) (args := encs x) hbk.loop (by rw [hrp]; exact hps x)
      rw [hrc] at hy
      refine ⟨fn, _, assign, body, hy, roundIn_of_wpIn hfn (hassign _ pre x W _ hi fun a' W2 k2 p2 i2 ax => ?_)⟩
      have bk2 := hbk.keep k2
      refine ⟨_, run_beginRound bk2.loop (hrs _ _).1, ?_⟩
      rw [hset]
      have bk3 := bk2.put (r' := rc .busy none)
      have p3 := hKp W2 _ (.loop (rc .busy none)) bk2.loop
      refine wpIn_mono (hbody _ pre x a' _ (by omega) (hI.putObj _ i2 (by omega) bk2.loop rfl) ((hAx x a').putObj (s := ()) _ ax (by omega) bk2.loop rfl) hlen) ?_
      intro e a3 W3 hp
      have fin : ∀ (jump : Option Code), KeepsFrom D (W2.putObj (D + 1) (.loop (rc .busy none))) W3 → Kp (W2.putObj (D + 1) (.loop (rc .busy none))) W3 →
          (Instr.endRound (D + 1) jump).run P W3 = .ok (.bool jump.isNone) (W3.putObj (D + 1) (.loop (rc (if jump.isNone then .ready else .done) jump))) ∧
          W3.heap[D + 1]? = some (.loop (rc .busy none)) ∧ Book D (rc (if jump.isNone then .ready else .done) jump) (W3.putObj (D + 1) (.loop (rc (if jump.isNone then .ready else .done) jump))) ∧
          Kp W (W3.putObj (D + 1) (.loop (rc (if jump.isNone then .ready else .done) jump))) := fun jump hk hkp => by
        have bk4 := bk3.keep hk
        have hr := run_endRound (P := P) jump bk4.loop
        rw [hset2] at hr
        exact ⟨hr, bk4.loop, bk4.put, hKt p2 (hKt p3 (hKt hkp (hKp W3 _ _ bk4.loop)))⟩
      cases e with
      | normal =>
        obtain ⟨hk3, hkp3, hi3⟩ := hp
        obtain ⟨hr, hl3, hb4, hk4⟩ := fin none hk3 hkp3
        exact ⟨_, _, hr, .inl ⟨rfl, ⟨hI.putObj _ hi3 (by omega) hl3 rfl, hb4⟩, hk4⟩⟩
      | exit id =>
        obtain ⟨hk3, hkp3, hi3⟩ := hp
        obtain ⟨hr, hl3, hb4, hk4⟩ := fin (some (.exit id)) hk3 hkp3
        exact ⟨_, _, hr, .inr ⟨rfl, ⟨id, (hIx id).putObj _ hi3 (by omega) hl3 rfl, hb4⟩, hk4⟩⟩
      | ret => exact hp.elim
      | goto t => exact hp.elim
      | panic ch => exact hp.elim
      | outgrown => exact hp.elim
    · rintro e W2 ⟨⟨v, rfl⟩, (⟨xs, hs, hi, hbk⟩ | ⟨pre, hsp, id, hi, hbk⟩)⟩
      · have hr := run_endLoop (P := P) hbk.loop (by rw [(hrs _ _).1]; simp)
        rw [hset, (hrs _ _).2] at hr
        exact ⟨none, _, hr, hdone D xs _ (Nat.le_refl _) (hS.putObj _ hs (by omega) hbk.loop rfl) (hI.putObj _ hi (by omega) hbk.loop rfl) hbk.put.wait⟩
      · have hr := run_endLoop (P := P) hbk.loop (by rw [(hrs _ _).1]; simp)
        rw [hset, (hrs _ _).2] at hr
        exact ⟨some (.exit id), _, hr, hstop D id pre _ (Nat.le_refl _) (hSp.putObj _ hsp (by omega) hbk.loop rfl) ((hIx id).putObj _ hi (by omega) hbk.loop rfl) hbk.put.wait⟩
end Go.Proofs.YtcmjdepjckhpdabDoor.Rs
namespace Go.Proofs.YtcmjdepjckhpdabDoor.So
open Go Go.RowKit Go.Shelf Kt Kg Wr Lw Sha Dk Dg Rs
attribute [local go_sem] Oper.semAt_some

theorem rx_err {x : Rx} {b : Bs} (h : x.k = rdOne b) : x.err = 0 ↔ x.yes = true := by
  unfold Rx.err Rx.yes
  rw [h]
  cases hd : rdOne b with
  | torn => simp
  | bad e =>
    have := rd_bad hd
    simp only []
    constructor
    · intro h; omega
    · intro h; cases h
  | got b k => simp
theorem rx_size {x : Rx} {b : Bs} (h : x.k = rdOne b) (hy : x.yes = true) : 5 ≤ x.size ∧ x.size ≤ b.length := by
  unfold Rx.yes at hy
  unfold Rx.size
  rw [h] at hy ⊢
  cases hd : rdOne b with
  | torn => rw [hd] at hy; cases hy
  | bad e => rw [hd] at hy; cases hy
  | got b k => obtain ⟨h1, h2, _⟩ := got_size hd; exact ⟨h1, h2⟩
theorem rx_no {x : Rx} (hy : x.yes = false) : x.size = 0 := by
  unfold Rx.yes at hy
  unfold Rx.size
  cases hd : x.k with
  | torn => rfl
  | bad e => rfl
  | got b k => rw [hd] at hy; cases hy
def encR (x : Rx) : Array Value := #[.agg (rxC x).toArray]
/-- what a round must keep for the iterator -/
structure KpR (w0 : World) (bb : Nat) (Pb : Nat → Prop) (A B : World) : Prop where
  low : Below w0.heap.size A B
  box : B.heap[bb]? = A.heap[bb]?
  bytes : ∀ k, Pb k → B.heap[k]? = A.heap[k]?
  rows : ∀ k cs, Row A k tRc cs → Row B k tRc cs
theorem KpR.trans {w0 A B C : World} {bb : Nat} {Pb : Nat → Prop} (h : KpR w0 bb Pb A B) (k : KpR w0 bb Pb B C) : KpR w0 bb Pb A C :=
  ⟨h.low.trans k.low, k.box.trans h.box, fun i hi => (k.bytes i hi).trans (h.bytes i hi), fun i cs hr => k.rows i cs (h.rows i cs hr)⟩
/-- which record may come -/
def GR (w : World) (Pb : Nat → Prop) (bs : Bs) (zs : List Rx) (x : Rx) : Prop :=
  (∀ y ∈ zs, y.yes = true) ∧ sizes zs < bs.length ∧ x.k = rdOne (bs.drop (sizes zs)) ∧ Sl w Pb x.A x.c x.body
theorem records_any (A : Option Addr) (N c : Nat) (w : World) :
    Calls Tryd.prog 29 #[.slice A N c] w fun e w' => e = .returned (.func (.func 39) #[] #[.pointer (some ⟨w.heap.size, 0, none⟩)]) ∧ w' = w.alloc (.cells #[.slice A N c] 38) := by
  go_enter Tryd.func29, Tryd.ntmps29
  go_wp2
  go_ret
  exact ⟨rfl, rfl⟩
theorem grown_of_below {A B : World} {r : Option Nat} (h : Below A.heap.size A B) : A.grownBy B r := ⟨h.os, h.tape, h.output, h.size, fun k hk _ => h.block k hk⟩
set_option maxRecDepth 100000 in
set_option maxHeartbeats 4000000 in
theorem records_st (n : Nat) (hn : 1 ≤ n) (w0 w : World) (bs : Bs) (A : Option Addr) (c bb : Nat) (Pb : Nat → Prop) (hlow : Below w0.heap.size w0 w) (hT : Tab w0) (hs : Sl w Pb A c bs) (hP : ∀ k, Pb k → k < w.heap.size)
    (hb : w.cell? ⟨bb, 0, none⟩ = some (.slice A bs.length c)) (hbw : bb < w.heap.size) (hl : bs.length ≤ 16777216) :
    SeqSt Fence.wide n Tryd.prog 39 #[.pointer (some ⟨bb, 0, none⟩)] encR bb (KpR w0 bb Pb)
      (fun zs _ => ((∀ y ∈ zs, y.yes = true) ∧ sizes zs = bs.length) ∨ ∃ vs v, zs = vs ++ [v] ∧ v.yes = false ∧ GR w Pb bs vs v)
      (fun zs _ => ∃ vs v, zs = vs ++ [v] ∧ GR w Pb bs vs v) (GR w Pb bs) w := by
  intro l J Jx W hW fJ fJx hY h0
  obtain ⟨N, hN⟩ : ∃ z, z = bs.length := ⟨_, rfl⟩
  have hNc : N ≤ c := by rw [hN]; exact hs.1
  rw [← hN] at hb hl
  have HBox := hide (fun (wz : World) (h : wz.heap[bb]? = w.heap[bb]?) => (World.cell?_of_block (a := ⟨bb, 0, none⟩) h).trans hb)
  have HLow := hide hlow
  have HT := hide hT
  have Hs := hide hs
  have HP := hide hP
  have HN := hide hN
  have HY := hide hY
  have Hfj := hide fJ
  have H0 := hide h0
  have hK0 : Below w0.heap.size w W := hW.mono hlow.size
  have HKp := hide (show Below w0.heap.size w W ∧ W.heap[bb]? = w.heap[bb]? ∧ (∀ k, Pb k → W.heap[k]? = w.heap[k]?) ∧ w.heap.size ≤ W.heap.size from ⟨hK0, hW.block bb hbw, fun k hk => hW.block k (hP k hk), hW.size⟩)
  clear hlow hT hs hP hb hN hY fJ h0 hW hK0 fJx
  refine callsIn_of_wp Tryd.func39 rfl trivial ?_ rfl
  simp only [Tryd.ntmps39, List.size_toArray, List.length_cons, List.length_nil, Nat.reduceAdd, Nat.reduceSub, Array.replicate_succ, Array.replicate_zero, List.push_toArray, List.append_toArray, List.nil_append, List.cons_append]
  gi_wp2
  gi_loopw [3] (fun v wr => ∃ (zs : List Rx) (a : Nat), v = .int .i64 (a : Int) ∧ a ≤ N ∧ Hid (a = sizes zs ∧ ∀ y ∈ zs, y.yes = true) ∧ Hid (J zs wr) ∧ Hid (Below w0.heap.size w wr ∧ wr.heap[bb]? = w.heap[bb]? ∧ (∀ k, Pb k → wr.heap[k]? = w.heap[k]?) ∧ w.heap.size ≤ wr.heap.size)) (fun v _ => N - (intOf v).toNat)
  case atStart => exact ⟨[], 0, rfl, Nat.zero_le _, by show Hid _; exact hide ⟨rfl, fun y h => by cases h⟩, by show Hid _; exact H0, by show Hid _; exact HKp⟩
  case round =>
    obtain ⟨zs, a, rfl, haN, Ha, HJ, HK⟩ := hrel
    have c0 := HBox.out wr HK.out.2.1
    by_cases hend : a < N
    · have da : decide ((a : Int) < (N : Int)) = true := decide_eq_true (by omega)
      obtain ⟨A1, hA1⟩ : ∃ z, z = (if c = a then A else A.map (·.add a)) := ⟨_, rfl⟩
      obtain ⟨C1, hC1⟩ : ∃ z, z = c - a := ⟨_, rfl⟩
      obtain ⟨M, hM⟩ : ∃ z, z = N - a := ⟨_, rfl⟩
      have hcut : ∀ u, (Instr.slice 38 (.slice A N c) (some (.int .i64 (a : Int))) none none).run Tryd.prog u = .ok (.slice A1 M C1) u := fun u => by
        have h := run_cut u A N c a haN hNc
        unfold cutV at h
        rw [← hA1, ← hC1, ← hM] at h
        exact h
      have hsr : Sl wr Pb A1 C1 (bs.drop a) := by
        have h := (Hs.out.move (w' := wr) fun k hk _ => HK.out.2.2.1 k hk).cut (k := a) (by rw [← HN.out]; exact haN)
        rw [← hA1, ← hC1] at h
        exact h
      have hdl : (bs.drop a).length = M := by rw [List.length_drop, ← HN.out, hM]
      have HRd := hide (pread_any (bs.drop a) A1 C1 Pb wr hsr (by rw [hdl]; omega) (HT.out.below (HLow.out.trans HK.out.1)))
      rw [hdl] at HRd
      have HDl := hide hdl
      have HM := hide hM
      clear hA1 hC1 hM hsr hdl
      gi_wp2_with fail
      refine ⟨trivial, ?_⟩
      gi_at_call 40
      refine (callsIn_wide.2 HRd.out).mono ?_
      rintro e w' ⟨x, hxk, rfl, hxs, hxb⟩
      rw [show (rxC x).toArray = #[.string ⟨x.id.toArray⟩, .slice x.A x.body.length x.c, .int .i64 (x.size : Int), .int .i64 (x.err : Int)] from rfl]
      obtain ⟨w4, hw4⟩ : ∃ z, z = w'.alloc (.cells #[.string ⟨x.id.toArray⟩, .slice x.A x.body.length x.c, .int .i64 (x.size : Int), .int .i64 (x.err : Int)] tRc) := ⟨_, rfl⟩
      obtain ⟨q, hq⟩ : ∃ z, z = w'.heap.size := ⟨_, rfl⟩
      have hr4 : Row w4 q tRc (rxC x) := by rw [hw4, hq]; exact Row.fresh w' tRc _
      have hb4 : Below wr.heap.size wr w4 := by rw [hw4]; exact hxb.alloc hxb.size _
      have k0 := hr4.cell 0
      have k1 := hr4.cell 1
      have k2 := hr4.cell 2
      have k3 := hr4.cell 3
      simp only [rxC, List.getElem?_cons_zero, List.getElem?_cons_succ] at k0 k1 k2 k3
      have hxz : x.size ≤ M := by
        cases hy : x.yes with
        | true => have := (rx_size hxk hy).2; rw [HDl.out] at this; exact this
        | false => rw [rx_no hy]; exact Nat.zero_le _
      have hadd : IntKind.i64.wrap ((a : Int) + (x.size : Int)) = ((a + x.size : Nat) : Int) := by
        have := HM.out
        rw [IntWalk.i64_in _ (by omega)]; omega
      have HJ4 := hide (Hfj.out zs wr w4 HJ.out (grown_of_below hb4))
      have HG := hide (show GR w Pb bs zs x from ⟨Ha.out.2, by rw [← HN.out, ← Ha.out.1]; exact hend, by rw [← Ha.out.1]; exact hxk, hxs.move fun k hk _ => ((hxb.block k (Nat.lt_of_lt_of_le (HP.out k hk) HK.out.2.2.2)).trans (HK.out.2.2.1 k hk)).symm⟩)
      have HK4 := hide (show Below w0.heap.size w w4 ∧ w4.heap[bb]? = w.heap[bb]? ∧ (∀ k, Pb k → w4.heap[k]? = w.heap[k]?) ∧ w.heap.size ≤ w4.heap.size from
        ⟨HK.out.1.trans (hb4.mono (Nat.le_trans HLow.out.size HK.out.2.2.2)), (hb4.block bb (Nat.lt_of_lt_of_le hbw HK.out.2.2.2)).trans HK.out.2.1, fun k hk => (hb4.block k (Nat.lt_of_lt_of_le (HP.out k hk) HK.out.2.2.2)).trans (HK.out.2.2.1 k hk), Nat.le_trans HK.out.2.2.2 hb4.size⟩)
      have HW4 := hide hw4
      have HQ := hide hq
      have HR4 := hide hr4
      have HXk := hide hxk
      obtain ⟨fn, tmps, assign, body, hy, hR⟩ := HY.out zs x w4 HJ4.out HG.out
      have HR := hide hR
      clear hr4 hb4 hxk hxs hxb hw4 hq hR HRd HJ HK c0
      have hy2 : (Instr.yield l #[.agg #[.string ⟨x.id.toArray⟩, .slice x.A x.body.length x.c, .int .i64 (x.size : Int), .int .i64 (x.err : Int)]]).run Tryd.prog w4 = .ok (.round l fn tmps assign body) w4 := hy
      clear hy
      obtain ⟨e, he⟩ : ∃ z, z = x.err := ⟨_, rfl⟩
      obtain ⟨sz, hsz⟩ : ∃ z, z = x.size := ⟨_, rfl⟩
      rw [← he] at hy2 k3 HW4
      rw [← hsz] at hy2 k2 HW4 hadd hxz
      rw [← he, ← hsz]
      have HEr := hide he
      have HSz := hide hsz
      clear he hsz
      gi_wp2_with (rw [← HW4.out, ← HQ.out])
      refine HR.out.mono ?_
      rintro e3 W3 (⟨rfl, hJ3, hk3⟩ | ⟨rfl, hJ3, hk3⟩)
      · have k33 : W3.cell? ⟨q, 3, none⟩ = some (.int .i64 (e : Int)) := by
          have := (hk3.rows q _ HR4.out).cell 3
          rw [HEr.out]; exact this
        have HJ3 := hide hJ3
        have HK3 := hide (show Below w0.heap.size w W3 ∧ W3.heap[bb]? = w.heap[bb]? ∧ (∀ k, Pb k → W3.heap[k]? = w.heap[k]?) ∧ w.heap.size ≤ W3.heap.size from
          ⟨HK4.out.1.trans hk3.low, hk3.box.trans HK4.out.2.1, fun k hk => (hk3.bytes k hk).trans (HK4.out.2.2.1 k hk), Nat.le_trans HK4.out.2.2.2 hk3.low.size⟩)
        clear hJ3 hk3
        by_cases he : e = 0
        · have hy : x.yes = true := (rx_err HXk.out).1 (by rw [← HEr.out]; exact he)
          have Hy := hide hy
          have H5 := hide (rx_size HXk.out hy).1
          subst he
          have hz : (((0 : Nat) : Int) != 0) = false := rfl
          clear hy
          gi_wp2
          go_roundw
          case rel =>
            have hall : ∀ y ∈ zs ++ [x], y.yes = true := fun y h => by
              rcases List.mem_append.1 h with h | h
              · exact Ha.out.2 y h
              · rw [List.mem_singleton.1 h]; exact Hy.out
            exact ⟨zs ++ [x], a + sz, by go_num, by have := HM.out; omega, by show Hid _; exact hide ⟨by rw [sizes_snoc, ← Ha.out.1, HSz.out], hall⟩, by show Hid _; exact HJ3, by show Hid _; exact HK3⟩
          case measure =>
            have := H5.out
            have := HSz.out
            have hz1 : ((a : Int) + (sz : Int)).toNat = a + sz := by omega
            simp only [intOf, hz1, Int.toNat_natCast]
            omega
        · have hz : ((e : Int) != 0) = true := by rw [bne_iff_ne]; omega
          have Hy := hide (show x.yes = false by
            cases hy : x.yes with
            | false => rfl
            | true => exact absurd ((rx_err HXk.out).2 hy) (by rw [← HEr.out]; exact he))
          clear he
          gi_wp2
          refine bodyPost_ret (results_none rfl _ _ _) rfl ?_
          exact ⟨⟨_, rfl⟩, .inl ⟨_, .inr ⟨zs, x, rfl, Hy.out, HG.out⟩, HJ3.out⟩⟩
      · gi_wp2
        refine bodyPost_ret (results_none rfl _ _ _) rfl ?_
        exact ⟨⟨_, rfl⟩, .inr ⟨_, ⟨zs, x, rfl, HG.out⟩, hJ3⟩⟩
    · have da : decide ((a : Int) < (N : Int)) = false := decide_eq_false (by omega)
      obtain rfl : a = N := by omega
      gi_wp2
      go_end0
      exact ⟨⟨_, rfl⟩, .inl ⟨zs, .inl ⟨Ha.out.2, by rw [← Ha.out.1]; exact HN.out⟩, HJ.out⟩⟩
end Go.Proofs.YtcmjdepjckhpdabDoor.So
namespace Go.Proofs.YtcmjdepjckhpdabDoor.So
open Go Go.RowKit Go.Shelf Kt Kg Wr Lw Sha Dk Dg Rs
attribute [local go_sem] Oper.semAt_some

abbrev tPS : TypeId := 31
abbrev tInt : TypeId := 3
abbrev tErr : TypeId := 32
theorem OwB.cells {w : World} {v : Value} {Z : List Ob} (h : OwB w v Z) {k : Nat} (hk : v.ownBlock = some k) : ∃ cs : Array Value, ∃ f, w.heap[k]? = some (.cells cs tOb f) := by
  rcases h.2 with ⟨rfl, h0⟩ | ⟨g, cap, cur, rfl, hB, hg, _⟩
  · cases hk
  · obtain rfl : g = k := by simpa [Value.ownBlock] using hk
    exact ⟨_, _, hg⟩
/-- the store, and the call's variables, while it is filled -/
structure FI (w : World) (gs gm gd s0 : Nat) (Pb : Nat → Prop) (size e : Nat) (L : List Bs) (W : World) : Prop where
  ix : ∃ vo, Inx W gs gm vo Pb gd L ∧ ∀ k, vo.ownBlock = some k → s0 + 4 ≤ k
  bx : Row W s0 tPS [pt gs]
  bs : Row W (s0 + 1) tInt [.int .i64 (size : Int)]
  be : Row W (s0 + 1 + 1) tErr [.int .i64 (e : Int)]
  oth : Oth (fun k => k = gs ∨ k = gm) w W
  sz : s0 + 4 ≤ W.heap.size
theorem FI.grown {w A B : World} {gs gm gd s0 : Nat} {Pb : Nat → Prop} {size e : Nat} {L : List Bs} {row : Option Nat} (h : FI w gs gm gd s0 Pb size e L A) (h0 : s0 = w.heap.size) (hlt : gs < s0 ∧ gm < s0 ∧ ∀ k, Pb k → k < s0) (hg : A.grownBy B row)
    (hr : ∀ r, row = some r → r = s0 + 3 ∨ s0 + 4 ≤ r ∧ ∃ o : Obj, A.heap[r]? = some o ∧ o.isCells = false) : FI w gs gm gd s0 Pb size e L B := by
  have hge : ∀ r, row = some r → s0 + 3 ≤ r := fun r e => by rcases hr r e with x | x <;> omega
  obtain ⟨vo, h1, h2⟩ := h.ix
  refine ⟨⟨vo, h1.move (fun k hk => hg.block k (h1.all_lt k hk) fun e => ?_) hg.size, h2⟩, h.bx.grown hg fun e => by have := hge _ e.symm; omega, h.bs.grown hg fun e => by have := hge _ e.symm; omega, h.be.grown hg fun e => by have := hge _ e.symm; omega, ?_, Nat.le_trans h.sz hg.size⟩
  · have h3 := hge k e.symm
    rcases hk with rfl | rfl | hk | hk
    · omega
    · omega
    · rcases hr k e.symm with x | ⟨_, o, ho, hc⟩
      · have := h2 k hk; omega
      · obtain ⟨Z, _, h4, _⟩ := h1.objs
        obtain ⟨cs, f, hcs⟩ := h4.cells hk
        rw [hcs] at ho
        cases ho
        simp [Obj.isCells] at hc
    · have := hlt.2.2 k hk; omega
  · exact h.oth.trans (Oth.of_grown (S := fun k => ∃ r, row = some r ∧ k = r) hg fun g e => ⟨g, e, rfl⟩) fun i hi ⟨r, e, hir⟩ => by have := hge r e; omega
theorem FI.below {w A B : World} {gs gm gd s0 : Nat} {Pb : Nat → Prop} {size e : Nat} {L : List Bs} (h : FI w gs gm gd s0 Pb size e L A) (hb : Below A.heap.size A B) : FI w gs gm gd s0 Pb size e L B := by
  obtain ⟨vo, h1, h2⟩ := h.ix
  exact ⟨⟨vo, h1.below hb, h2⟩, h.bx.below hb h.bx.lt, h.bs.below hb h.bs.lt, h.be.below hb h.be.lt, h.oth.trans (Oth.of_below (fun _ => False) hb) fun _ _ x => x.elim, Nat.le_trans h.sz hb.size⟩
theorem inx_off {W : World} {gs gm gd g : Nat} {vo v : Value} {Pb : Nat → Prop} {L : List Bs} (h : Inx W gs gm vo Pb gd L) (hg : g ≠ gs ∧ g ≠ gm ∧ vo.ownBlock ≠ some g ∧ ¬ Pb g) : Inx (W.setCell ⟨g, 0, none⟩ v) gs gm vo Pb gd L :=
  h.move (fun k hk => Below.heap_setCell W ⟨g, 0, none⟩ v k fun e => by
    have e : k = g := e
    subst e
    rcases hk with x | x | x | x
    · exact hg.1 x
    · exact hg.2.1 x
    · exact hg.2.2.1 x
    · exact hg.2.2.2 x) (by simp [World.setCell])
theorem FI.err {w W : World} {gs gm gd s0 : Nat} {Pb : Nat → Prop} {size e : Nat} {L : List Bs} (h : FI w gs gm gd s0 Pb size e L W) (h0 : s0 = w.heap.size) (hlt : gs < s0 ∧ gm < s0 ∧ ∀ k, Pb k → k < s0) (e' : Nat) : FI w gs gm gd s0 Pb size e' L (W.setCell ⟨s0 + 1 + 1, 0, none⟩ (.int .i64 (e' : Int))) := by
  obtain ⟨vo, h1, h2⟩ := h.ix
  exact ⟨⟨vo, inx_off h1 ⟨by omega, by omega, fun x => by have := h2 _ x; omega, fun x => by have := hlt.2.2 _ x; omega⟩, h2⟩, h.bx.off (by omega) _, h.bs.off (by omega) _, h.be.put 0 _, h.oth.put (.inr (by omega)) _, by have := h.sz; simpa [World.setCell] using this⟩
theorem FI.add {w W : World} {gs gm gd s0 : Nat} {Pb : Nat → Prop} {size e : Nat} {L : List Bs} (h : FI w gs gm gd s0 Pb size e L W) (h0 : s0 = w.heap.size) (hlt : gs < s0 ∧ gm < s0 ∧ ∀ k, Pb k → k < s0) (n : Nat) : FI w gs gm gd s0 Pb n e L (W.setCell ⟨s0 + 1, 0, none⟩ (.int .i64 (n : Int))) := by
  obtain ⟨vo, h1, h2⟩ := h.ix
  exact ⟨⟨vo, inx_off h1 ⟨by omega, by omega, fun x => by have := h2 _ x; omega, fun x => by have := hlt.2.2 _ x; omega⟩, h2⟩, h.bx.off (by omega) _, h.bs.put 0 _, h.be.off (by omega) _, h.oth.put (.inr (by omega)) _, by have := h.sz; simpa [World.setCell] using this⟩
/-- an object more -/
theorem FI.step {w W W3 : World} {gs gm gd s0 : Nat} {Pb : Nat → Prop} {size e : Nat} {L L' : List Bs} {vo vo' : Value} (h : FI w gs gm gd s0 Pb size e L W) (h0 : s0 = w.heap.size) (hlt : gs < s0 ∧ gm < s0 ∧ ∀ k, Pb k → k < s0)
    (hv : ∀ k, vo.ownBlock = some k → s0 + 4 ≤ k) (h3 : Inx W3 gs gm vo' Pb gd L') (ho : Oth (fun k => k = gs ∨ k = gm ∨ vo.ownBlock = some k) W W3) (hn : ∀ k, vo'.ownBlock = some k → vo.ownBlock = some k ∨ W.heap.size ≤ k) : FI w gs gm gd s0 Pb size e L' W3 := by
  have hno : ∀ k, s0 ≤ k → k < s0 + 4 → ¬ (k = gs ∨ k = gm ∨ vo.ownBlock = some k) := fun k h1 h2 x => by
    rcases x with x | x | x
    · omega
    · omega
    · have := hv k x; omega
  exact ⟨⟨vo', h3, fun k hk => (hn k hk).elim (hv k) fun x => Nat.le_trans h.sz x⟩, ho.row h.bx (hno _ (Nat.le_refl _) (by omega)), ho.row h.bs (hno _ (by omega) (by omega)), ho.row h.be (hno _ (by omega) (by omega)), h.oth.trans ho fun i hi x => by
    rcases x with x | x | x
    · exact .inl x
    · exact .inr x
    · have := hv i x; omega, Nat.le_trans h.sz ho.size⟩
theorem inx_T {W w0 : World} {gs gm gd s0 : Nat} {vo : Value} {Pb : Nat → Prop} {L : List Bs} (h : Inx W gs gm vo Pb gd L) (hup : w0.heap.size ≤ gs ∧ w0.heap.size ≤ gm) (_h0 : w0.heap.size ≤ s0) (hlt : gs < s0 ∧ gm < s0 ∧ ∀ k, Pb k → k < s0) (hv : ∀ k, vo.ownBlock = some k → s0 + 4 ≤ k) :
    (∀ k, (k = gs ∨ k = gm ∨ vo.ownBlock = some k) → w0.heap.size ≤ k ∧ k ≠ s0 + 1 + 1 + 1 ∧ ¬ Pb k ∧ ∀ cs, ¬ Row W k tRc cs) ∧ ∀ k, (k = gs ∨ k = gm ∨ vo.ownBlock = some k) → k < s0 + 4 ∨ ∃ o : Obj, W.heap[k]? = some o ∧ o.isCells = true := by
  obtain ⟨Z, _, h4, _⟩ := h.objs
  refine ⟨?_, ?_⟩
  · rintro k (rfl | rfl | hk)
    · exact ⟨hup.1, by omega, fun x => (h.apart k x).1 rfl, fun cs hr => absurd (h.row.uniq hr).1 (by decide)⟩
    · exact ⟨hup.2, by omega, fun x => (h.apart k x).2.1 rfl, fun cs hr => by
        unfold Row at hr
        rw [h.map] at hr
        unfold mpO at hr
        cases hr⟩
    · refine ⟨by have := hv k hk; omega, by have := hv k hk; omega, fun x => (h.apart k x).2.2.1 hk, fun cs hr => ?_⟩
      obtain ⟨cs', f, hc⟩ := h4.cells hk
      unfold Row at hr
      rw [hr] at hc
      simp only [Option.some.injEq, Obj.cells.injEq] at hc
      exact absurd hc.2.1 (by decide)
  · rintro k (rfl | rfl | hk)
    · exact .inl (by omega)
    · exact .inl (by omega)
    · obtain ⟨cs', f, hc⟩ := h4.cells hk
      exact .inr ⟨_, hc, rfl⟩
theorem kp_oth {w0 A B : World} {bb : Nat} {Pb T : Nat → Prop} (ho : Oth T A B) (h0 : w0.heap.size ≤ A.heap.size) (hb : bb < A.heap.size) (hP : ∀ k, Pb k → k < A.heap.size)
    (hT : ∀ k, T k → w0.heap.size ≤ k ∧ k ≠ bb ∧ ¬ Pb k ∧ ∀ cs, ¬ Row A k tRc cs) : KpR w0 bb Pb A B :=
  ⟨ho.below (Below.refl _ A) h0 fun k hk hTk => by have := (hT k hTk).1; omega, ho.block bb hb fun x => (hT bb x).2.1 rfl, fun k hk => ho.block k (hP k hk) fun x => (hT k x).2.2.1 hk, fun k cs hr => (ho.block k hr.lt fun x => (hT k x).2.2.2 cs hr).trans hr⟩
theorem keeps_oth {A B : World} {D : Nat} {T : Nat → Prop} (ho : Oth T A B) (hT : ∀ k, T k → k < D ∨ ∃ o : Obj, A.heap[k]? = some o ∧ o.isCells = true) : KeepsFrom D A B :=
  ⟨ho.size, fun k o hD hk hc => (ho.block k (Array.getElem?_eq_some_iff.1 hk).1 fun x => by
    rcases hT k x with y | ⟨o', ho', hc'⟩
    · omega
    · rw [hk] at ho'
      cases ho'
      rw [hc] at hc'
      cases hc').trans hk⟩
def JF (w : World) (gs gm gd s0 : Nat) (Pb : Nat → Prop) (bs : Bs) (pre : List Rx) (W : World) : Prop := FI w gs gm gd s0 Pb (sizes pre) 0 (bodies pre) W ∧ Gone bs pre
def JFX (w : World) (gs gm gd s0 : Nat) (Pb : Nat → Prop) (bs : Bs) (id : Nat) (pre : List Rx) (W : World) : Prop := id = 0 ∧ ∃ vs v e, pre = vs ++ [v] ∧ FI w gs gm gd s0 Pb (sizes vs) e (bodies vs) W ∧ fillR bs (sizes vs) e (bodies vs)
theorem kp_put {w0 W : World} {bb j : Nat} {Pb : Nat → Prop} {r : Loop} (o : Obj) (hl : W.heap[j]? = some (.loop r)) (h0 : w0.heap.size ≤ W.heap.size) (hj : w0.heap.size ≤ j) (hb : bb ≠ j) (hP : ∀ k, Pb k → k ≠ j) : KpR w0 bb Pb W (W.putObj j o) :=
  ⟨(Below.refl _ W).grown (grownBy_putObj' W j o) h0 (fun k e => by cases e; exact hj), World.putObj_heap_other hb, fun k hk => World.putObj_heap_other (hP k hk), fun k cs hr => (World.putObj_heap_other (fun e => by
    subst e
    unfold Row at hr
    rw [hl] at hr
    cases hr)).trans hr⟩
/-- a round's frame -/
def frT (gs s0 N c : Nat) (A : Option Addr) (q : Nat) (x : Rx) : Array Value :=
  #[pt gs, .slice A N c, .pointer (some ⟨s0, 0, none⟩), undef, .int .i64 0, .int .i64 0, .pointer (some ⟨s0 + 1, 0, none⟩), .pointer (some ⟨s0 + 1 + 1, 0, none⟩), .pointer (some ⟨q, 0, none⟩), .slice A N c, .func (.func 39) #[] #[.pointer (some ⟨s0 + 1 + 1 + 1, 0, none⟩)],
    .agg #[.string ⟨x.id.toArray⟩, .slice x.A x.body.length x.c, .int .i64 (x.size : Int), .int .i64 (x.err : Int)], undef, undef, undef, undef, undef, undef, undef, undef, undef, undef, undef, undef, undef, undef, undef, undef, undef, undef, undef, undef, undef, undef]
def JAx (gs s0 N c : Nat) (A : Option Addr) (x : Rx) (a : Act) (W : World) : Prop := ∃ q, s0 + 4 ≤ q ∧ Row W q tRc (rxC x) ∧ a = { tmps := frT gs s0 N c A q x, defers := [] }
/-- what fill comes to -/
def FillQ (w : World) (gs gm gd : Nat) (Pb : Nat → Prop) (bs : Bs) (y : Ending) (w' : World) : Prop :=
  ∃ size e L vo, y = .returned (.tuple #[.int .i64 ((size : Nat) : Int), .int .i64 ((e : Nat) : Int)]) ∧ fillR bs size e L ∧ Inx w' gs gm vo Pb gd L ∧ Oth (fun k => k = gs ∨ k = gm) w w' ∧ ∀ k, vo.ownBlock = some k → w.heap.size ≤ k
theorem fill_end {w W : World} {gs gm gd s0 : Nat} {Pb : Nat → Prop} {bs : Bs} {size e : Nat} {L : List Bs} (h0 : s0 = w.heap.size) (hlt : gs < s0 ∧ gm < s0 ∧ ∀ k, Pb k → k < s0) (h : FI w gs gm gd s0 Pb size e L W) (hf : fillR bs size e L) (nq D : Nat) (hK : W.heap[D]? = some (.deferred (some []))) (hD : s0 + 4 ≤ D) :
    FillQ w gs gm gd Pb bs (.returned (.tuple #[.int .i64 (size : Int), .int .i64 (e : Int)])) ((W.drewN nq).putObj D (.deferred none)) := by
  have h2 := (h.below (below_drewN (Below.refl _ _) nq)).grown h0 hlt (grownBy_putObj' (W.drewN nq) D (.deferred none)) (fun r e => by cases e; exact .inr ⟨hD, _, hK, rfl⟩)
  obtain ⟨vo, h3, h4⟩ := h2.ix
  exact ⟨size, e, L, vo, rfl, hf, h3, h2.oth, fun k hk => by have := h4 k hk; omega⟩
set_option maxRecDepth 100000 in
set_option maxHeartbeats 4000000 in
theorem pfill_any {w0 w : World} {gs gm gd : Nat} {Pb : Nat → Prop} (bs : Bs) (A : Option Addr) (c : Nat) (hlow : Below w0.heap.size w0 w) (hT : Tab w0) (hx : Inx w gs gm (.slice none 0 0) Pb gd []) (hs : Sl w Pb A c bs) (hup : w0.heap.size ≤ gs ∧ w0.heap.size ≤ gm) (hl : bs.length ≤ 16777216) :
    Calls Tryd.prog 19 #[pt gs, .slice A bs.length c] w fun y w' => FillQ w gs gm gd Pb bs y w' := by
  have Hlow := hide hlow
  have HT := hide hT
  have Hx := hide hx
  have Hs := hide hs
  have Hup := hide hup
  obtain ⟨N, hN⟩ : ∃ z, z = bs.length := ⟨_, rfl⟩
  have HN := hide hN
  rw [← hN] at hl ⊢
  clear hlow hT hx hs hup hN
  refine (callsIn_wide (n := 9)).1 ?_
  refine callsIn_of_wp_marks Tryd.func19 rfl trivial ?_ rfl
  simp only [Tryd.ntmps19, List.size_toArray, List.length_cons, List.length_nil, Nat.reduceAdd, Nat.reduceSub, Array.replicate_succ, Array.replicate_zero, List.push_toArray, List.append_toArray, List.nil_append, List.cons_append]
  gi_wp2
  refine wpIn_wide.2 (wp_scope_straight ((wpIn_wide (n := 9)).1 ?_))
  gi_wp2
  refine wpIn_label ?_
  gi_wp2_with (refine ⟨trivial, ?_⟩; gi_at_call 29; refine (callsIn_wide.2 (records_any _ _ _ _)).mono ?_; rintro e' w' ⟨rfl, rfl⟩)
  obtain ⟨s0, hs0⟩ : ∃ z, z = w.heap.size := ⟨_, rfl⟩
  obtain ⟨w3, hw3⟩ : ∃ z, z = (((w.alloc (.cells #[pt gs] tPS)).alloc (.cells #[.int .i64 0] tInt)).alloc (.cells #[.int .i64 0] tErr)).alloc (.cells #[.slice A N c] 38) := ⟨_, rfl⟩
  have hsz : w3.heap.size = s0 + 4 := by rw [hw3, hs0]; simp
  have hb3 : Below w.heap.size w w3 := by
    rw [hw3]
    exact ((((Below.refl _ w).alloc (Nat.le_refl _) _).alloc (by simp) _).alloc (by simp; omega) _).alloc (by simp; omega) _
  have r0 : Row w3 s0 tPS [pt gs] := by rw [hw3, hs0]; exact (((Row.fresh w tPS _).alloc _).alloc _).alloc _
  have r1 : Row w3 (s0 + 1) tInt [.int .i64 ((0 : Nat) : Int)] := by rw [hw3, hs0]; exact ((Row.new _ tInt (by simp) rfl).alloc _).alloc _
  have r2 : Row w3 (s0 + 1 + 1) tErr [.int .i64 ((0 : Nat) : Int)] := by rw [hw3, hs0]; exact (Row.new _ tErr (by simp) rfl).alloc _
  have r3 : Row w3 (s0 + 1 + 1 + 1) 38 [.slice A N c] := by rw [hw3, hs0]; exact Row.new _ _ (by simp) rfl
  rw [← hs0, ← hw3]
  have hlt : gs < s0 ∧ gm < s0 ∧ ∀ k, Pb k → k < s0 := by rw [hs0]; exact ⟨Hx.out.row.lt, Hx.out.gm_lt, fun k hk => (Hx.out.apart k hk).2.2.2⟩
  have hfi : FI w gs gm gd s0 Pb 0 0 [] w3 := ⟨⟨_, Hx.out.below hb3, fun k hk => by cases hk⟩, r0, r1, r2, Oth.of_below _ hb3, by omega⟩
  have hst := records_st 8 (by omega) w0 w3 bs A c (s0 + 1 + 1 + 1) Pb (Hlow.out.trans (hb3.mono Hlow.out.size)) HT.out (Hs.out.move (w' := w3) fun k hk hlt => hb3.block k hlt) (fun k hk => by have := hlt.2.2 k hk; omega) (by rw [← HN.out]; exact r3.cell 0) (by omega) (by rw [← HN.out]; exact hl)
  have h0w : w0.heap.size ≤ s0 := by rw [hs0]; exact Hlow.out.size
  have Hst := hide hst
  have Hlt := hide hlt
  have Hfi := hide hfi
  have HW3 := hide hw3
  have HS0 := hide hs0
  have HB3 := hide hb3
  clear hw3 r0 r1 r2 r3 hst hlt hfi hb3 hs0
  refine range_st rfl (by omega) (gf := 39) (lb := #[.pointer (some ⟨s0 + 1 + 1 + 1, 0, none⟩)]) rfl trivial (enters_of Tryd.func39 (by kernel_rfl) rfl)
    (encs := encR) (b := s0 + 1 + 1 + 1) (Kp := KpR w0 (s0 + 1 + 1 + 1) Pb) (by omega) Hst.out
    (fun h h' => h.trans h')
    (fun W r o hl => kp_put o hl (by have := (Array.getElem?_eq_some_iff.1 hl).1; omega) (by omega) (by omega) (fun k hk => by have := Hlt.out.2.2 k hk; omega))
    (fun _ => rfl)
    (JF w gs gm gd s0 Pb bs) (JFX w gs gm gd s0 Pb bs) ?_ ?_ ?_ ?_ ?_ ?_ ?_ (JAx gs s0 N c A) ?_ ?_ ?_ ?_ ?_
  · exact fun zs W W' row h hg hro => ⟨h.1.grown HS0.out Hlt.out hg fun r e => .inr ⟨by have := (hro r e).1; omega, (hro r e).2⟩, h.2⟩
  · rintro id zs W W' row ⟨h0, vs, v, e, h1, h2, h3⟩ hg hro
    exact ⟨h0, vs, v, e, h1, h2.grown HS0.out Hlt.out hg fun r e => .inr ⟨by have := (hro r e).1; omega, (hro r e).2⟩, h3⟩
  · exact fun zs A B h hg => ⟨h.1.grown HS0.out Hlt.out hg fun r e => .inl (by cases e; rfl), h.2⟩
  · rintro id zs A B ⟨h0, vs, v, e, h1, h2, h3⟩ hg
    exact ⟨h0, vs, v, e, h1, h2.grown HS0.out Hlt.out hg fun r e => .inl (by cases e; rfl), h3⟩
  · exact fun _ _ _ _ h _ _ => h
  · exact fun _ _ _ _ h _ _ => h
  · exact ⟨Hfi.out, Gone.nil bs⟩
  · rintro x a' _ W W' row ⟨q, h1, h2, h3⟩ hg hro
    refine ⟨q, h1, h2.grown hg fun e => ?_, h3⟩
    obtain ⟨_, o, ho, hc⟩ := hro q e.symm
    unfold Row at h2
    rw [h2] at ho
    cases ho
    simp [Obj.isCells] at hc
  · rintro l pre x W K hI hK
    have HK := hide hK
    have HI := hide hI
    clear hK hI
    simp only [encR, rxC]
    simp
    gi_wp2
    have hg : W.grownBy (W.alloc (.cells #[.string ⟨x.id.toArray⟩, .slice x.A x.body.length x.c, .int .i64 (x.size : Int), .int .i64 (x.err : Int)] tRc)) none := World.grownBy_alloc W _ none
    have hsz4 := HI.out.1.sz
    exact HK.out _ _ (KeepsFrom.of_grownBy hg fun j e => by cases e) (kp_oth (T := fun _ => False) (Oth.of_below _ ((Below.refl _ W).alloc (Nat.le_refl _) _)) (by omega) (by omega) (fun k hk => by have := Hlt.out.2.2 k hk; omega) fun k h => h.elim)
      ⟨HI.out.1.grown HS0.out Hlt.out hg (fun r e => by cases e), HI.out.2⟩ ⟨W.heap.size, hsz4, Row.fresh W tRc _, rfl⟩
  · rintro l pre x a' W hl ⟨hfi, hgo⟩ ⟨q, hq, hrow, rfl⟩ ⟨_, hlts, hxk, hxs⟩
    have hsz4 := hfi.sz
    have KpT := hide (fun (T : Nat → Prop) (W' : World) (ho : Oth T W W') (hT : ∀ k, T k → w0.heap.size ≤ k ∧ k ≠ s0 + 1 + 1 + 1 ∧ ¬ Pb k ∧ ∀ cs, ¬ Row W k tRc cs) => kp_oth ho (by omega) (by omega) (fun k hk => by have := Hlt.out.2.2 k hk; omega) hT)
    have hTe : ∀ k, k = s0 + 1 + 1 → w0.heap.size ≤ k ∧ k ≠ s0 + 1 + 1 + 1 ∧ ¬ Pb k ∧ ∀ cs, ¬ Row W k tRc cs := fun k e => by
      subst e
      exact ⟨by omega, by omega, fun x => by have := Hlt.out.2.2 _ x; omega, fun cs hr => absurd (hfi.be.uniq hr).1 (by decide)⟩
    have hoe : ∀ v, Oth (fun k => k = s0 + 1 + 1) W (W.setCell ⟨s0 + 1 + 1, 0, none⟩ v) := fun v => (Oth.refl (fun k => k = s0 + 1 + 1) W).put (g := s0 + 1 + 1) (i := 0) (.inl rfl) v
    have q0 := hrow.cell 0
    have q1 := hrow.cell 1
    have q2 := hrow.cell 2
    have q3 := hrow.cell 3
    simp only [rxC, List.getElem?_cons_zero, List.getElem?_cons_succ] at q0 q1 q2 q3
    have d0 := hfi.be.cell 0
    have g0 := hfi.be.free 0
    have d1 := hfi.bx.cell 0
    simp only [List.getElem?_cons_zero] at d0 d1
    show Code.wpIn _ 7 _ _ _ _ _
    unfold frT
    cases hy : x.yes with
    | false =>
      obtain ⟨he, hfr⟩ := hgo.wrong hlts hxk hy
      obtain ⟨e, hee⟩ : ∃ z, z = x.err := ⟨_, rfl⟩
      rw [← hee] at he hfr q3 ⊢
      have hz : ((e : Int) != 0) = true := by rw [bne_iff_ne]; omega
      have HE := hide (show left w3.heap.size (KpR w0 (s0 + 1 + 1 + 1) Pb) (JF w gs gm gd s0 Pb bs) (JFX w gs gm gd s0 Pb bs) (pre ++ [x]) W (.exit 0) { tmps := #[], defers := [] } (W.setCell ⟨s0 + 1 + 1, 0, none⟩ (.int .i64 (e : Int))) from
        ⟨keeps_oth (hoe _) fun k e => .inl (by omega), KpT.out _ _ (hoe _) hTe, rfl, pre, x, e, rfl, hfi.err HS0.out Hlt.out e, hfr⟩)
      clear hfi hgo hxk hxs hrow hTe he hfr hee hy
      gi_wp2
      exact HE.out
    | true =>
      obtain ⟨b, kk, XA, XC, rfl⟩ : ∃ b kk XA XC, x = ⟨.got b kk, XA, XC⟩ := by
        unfold Rx.yes at hy
        obtain ⟨xk, XA, XC⟩ := x
        cases xk with
        | torn => cases hy
        | bad e => cases hy
        | got b kk => exact ⟨b, kk, XA, XC, rfl⟩
      have hrd : rdOne (bs.drop (sizes pre)) = .got b kk := hxk.symm
      obtain ⟨q5, q6, q7, q8⟩ := got_size hrd
      clear q8
      rw [List.length_drop] at q6
      have q0 : W.cell? ⟨q, 0, none⟩ = some (.string ⟨(sha b).toArray⟩) := q0
      have q1 : W.cell? ⟨q, 1, none⟩ = some (.slice XA b.length XC) := q1
      have q2 : W.cell? ⟨q, 2, none⟩ = some (.int .i64 (kk : Int)) := q2
      have q3 : W.cell? ⟨q, 3, none⟩ = some (.int .i64 ((0 : Nat) : Int)) := q3
      have hxs : Sl w3 Pb XA XC b := hxs
      generalize Value.agg #[.string ⟨(Rx.mk (.got b kk) XA XC).id.toArray⟩, .slice (Rx.mk (.got b kk) XA XC).A (Rx.mk (.got b kk) XA XC).body.length (Rx.mk (.got b kk) XA XC).c, .int .i64 ((Rx.mk (.got b kk) XA XC).size : Int), .int .i64 ((Rx.mk (.got b kk) XA XC).err : Int)] = v11
      have hz : (((0 : Nat) : Int) != 0) = false := rfl
      obtain ⟨vo, hix, hvo⟩ := hfi.ix
      have HHas := hide (phas_any hix (sha b))
      have hslW : Sl W Pb XA XC b := hxs.move fun k hk hlt => by
        have := hfi.oth.block k (by rw [← HS0.out]; exact Hlt.out.2.2 k hk) (fun x => by have := (Hx.out.apart k hk).1; have := (Hx.out.apart k hk).2.1; omega)
        rw [this]
        exact (HB3.out.block k (by rw [← HS0.out]; exact Hlt.out.2.2 k hk)).symm
      have hT := inx_T hix Hup.out h0w Hlt.out hvo
      have HT2 := hide hT
      have HFi := hide hfi
      have HGo := hide hgo
      have HIx := hide hix
      have HVo := hide hvo
      have HSl := hide hslW
      have HRow := hide (show Row W q tRc [.string ⟨(sha b).toArray⟩, .slice XA b.length XC, .int .i64 (kk : Int), .int .i64 ((0 : Nat) : Int)] from hrow)
      by_cases hm : sha b ∈ (bodies pre).map sha
      · rw [decide_eq_true hm] at HHas
        have HE := hide (fun (W2 : World) (hb2 : Below W.heap.size W W2) => show left w3.heap.size (KpR w0 (s0 + 1 + 1 + 1) Pb) (JF w gs gm gd s0 Pb bs) (JFX w gs gm gd s0 Pb bs) (pre ++ [⟨.got b kk, XA, XC⟩]) W (.exit 0) { tmps := #[], defers := [] } (W2.setCell ⟨s0 + 1 + 1, 0, none⟩ (.int .i64 ((3 : Nat) : Int))) from by
          have ho := ((Oth.of_below (fun k => k = s0 + 1 + 1) hb2).put (g := s0 + 1 + 1) (i := 0) (.inl rfl) (.int .i64 ((3 : Nat) : Int)))
          exact ⟨keeps_oth ho fun k e => .inl (by omega), KpT.out _ _ ho hTe, rfl, pre, _, 3, rfl, (hfi.below hb2).err HS0.out Hlt.out 3, hgo.twice hlts hrd hm⟩)
        have HD := hide (fun (W2 : World) (hb2 : Below W.heap.size W W2) => show W2.cell? ⟨s0 + 1 + 1, 0, none⟩ = some (.int .i64 ((0 : Nat) : Int)) ∧ W2.frozen? ⟨s0 + 1 + 1, 0, none⟩ = false from ⟨(hfi.below hb2).be.cell 0, (hfi.below hb2).be.free 0⟩)
        clear hfi hgo hxk hxs hrow hTe hoe hy hix hvo hslW hT hm hrd
        gi_wp2_with (refine ⟨trivial, ?_⟩; gi_at_call 17; refine (CallsIn.inRound l (callsIn_wide.2 HHas.out)).mono ?_; rintro e' W2 ⟨rfl, hb2⟩; have HE2 := hide (HE.out W2 hb2); obtain ⟨d2, g2⟩ := HD.out W2 hb2; clear hb2)
        exact HE2.out
      · rw [decide_eq_false hm] at HHas
        have hlen : (bodies pre).length ≤ 100000000 := by
          rw [List.length_map]
          have := hgo.many
          have := hgo.le
          rw [← HN.out] at this
          omega
        have HAdd := hide (fun (W2 : World) (hb2 : Below W.heap.size W W2) => padd_any (hix.below hb2) b XA XC (hslW.move (w' := W2) fun k hk hlt => hb2.block k hlt) hm hlen q7)
        have hqT : ¬ (q = gs ∨ q = gm ∨ vo.ownBlock = some q) := fun x => (hT.1 q x).2.2.2 _ hrow
        have hadd : IntKind.i64.wrap (((sizes pre : Nat) : Int) + (kk : Int)) = ((sizes pre + kk : Nat) : Int) := by
          rw [IntWalk.i64_in _ (by rw [← HN.out] at q6 hlts; omega)]; omega
        have HD2 := hide (fun (W2 : World) (hb2 : Below W.heap.size W W2) => show W2.cell? ⟨s0, 0, none⟩ = some (pt gs) ∧ W2.cell? ⟨q, 0, none⟩ = some (.string ⟨(sha b).toArray⟩) ∧ W2.cell? ⟨q, 1, none⟩ = some (.slice XA b.length XC) from
          ⟨(hfi.below hb2).bx.cell 0, (HRow.out.below hb2 HRow.out.lt).cell 0, (HRow.out.below hb2 HRow.out.lt).cell 1⟩)
        have HD3 := hide (fun (W2 W3 : World) (vo' : Value) (hb2 : Below W.heap.size W W2) (h3 : Inx W3 gs gm vo' Pb gd (bodies pre ++ [b])) (ho : Oth (fun k => k = gs ∨ k = gm ∨ vo.ownBlock = some k) W2 W3) (hn : ∀ k, vo'.ownBlock = some k → vo.ownBlock = some k ∨ W2.heap.size ≤ k) =>
          show W3.cell? ⟨s0 + 1, 0, none⟩ = some (.int .i64 ((sizes pre : Nat) : Int)) ∧ W3.frozen? ⟨s0 + 1, 0, none⟩ = false ∧ W3.cell? ⟨q, 2, none⟩ = some (.int .i64 (kk : Int)) ∧
            left w3.heap.size (KpR w0 (s0 + 1 + 1 + 1) Pb) (JF w gs gm gd s0 Pb bs) (JFX w gs gm gd s0 Pb bs) (pre ++ [⟨.got b kk, XA, XC⟩]) W .normal { tmps := #[], defers := [] } (W3.setCell ⟨s0 + 1, 0, none⟩ (.int .i64 ((sizes pre + kk : Nat) : Int))) from by
          have hst := (hfi.below hb2).step HS0.out Hlt.out hvo h3 ho hn
          have ho2 := ((Oth.of_below (fun k => (k = gs ∨ k = gm ∨ vo.ownBlock = some k) ∨ k = s0 + 1) hb2).trans ho fun i _ x => .inl x).put (g := s0 + 1) (i := 0) (.inl (.inr rfl)) (.int .i64 ((sizes pre + kk : Nat) : Int))
          refine ⟨hst.bs.cell 0, hst.bs.free 0, (ho.row (HRow.out.below hb2 HRow.out.lt) hqT).cell 2, keeps_oth ho2 fun k x => ?_, KpT.out _ _ ho2 fun k x => ?_, ?_, hgo.more hlts hrd hm⟩
          · rcases x with x | x
            · exact (hT.2 k x).imp (fun y => by omega) fun y => y
            · exact .inl (by omega)
          · rcases x with x | x
            · exact hT.1 k x
            · subst x
              exact ⟨by omega, by omega, fun y => by have := Hlt.out.2.2 _ y; omega, fun cs hr => absurd (hfi.bs.uniq hr).1 (by decide)⟩
          · have := hst.add HS0.out Hlt.out (sizes pre + kk)
            rw [sizes_snoc, show bodies (pre ++ [⟨.got b kk, XA, XC⟩]) = bodies pre ++ [b] by simp [bodies, Rx.body]]
            exact this)
        obtain ⟨n0, hn0⟩ : ∃ z, z = sizes pre := ⟨_, rfl⟩
        rw [← hn0] at hadd HD3
        obtain ⟨bl, hbl⟩ : ∃ z, z = b.length := ⟨_, rfl⟩
        rw [← hbl] at HAdd HD2 q1
        clear hfi hgo hxk hxs hrow hTe hoe hy hix hvo hslW hT hm hrd hlen hqT hn0 hbl q5 q6 q7 hlts
        gi_wp2_with (refine ⟨trivial, ?_⟩; gi_at_call 17; refine (CallsIn.inRound l (callsIn_wide.2 HHas.out)).mono ?_; rintro e' W2 ⟨rfl, hb2⟩; have HB2 := hide hb2; have HAd := hide (HAdd.out W2 hb2); obtain ⟨j0, j1, j2⟩ := HD2.out W2 hb2; clear hb2)
        gi_wp2_with (refine ⟨trivial, ?_⟩; gi_at_call 24; refine (CallsIn.inRound l (callsIn_wide.2 HAd.out)).mono ?_; rintro e' W3 ⟨rfl, vo', h3, ho, hn⟩; obtain ⟨m0, m1, m2, hE⟩ := HD3.out W2 W3 vo' HB2.out h3 ho hn; have HE := hide hE; clear h3 ho hn hE)
        exact HE.out
  · rintro D zs W hD hS ⟨hfi, hgo⟩ hK
    have hsum : sizes zs = bs.length := by
      rcases hS with ⟨_, h⟩ | ⟨vs, v, rfl, hv, _⟩
      · exact h
      · have := hgo.all v (by simp)
        rw [hv] at this
        cases this
    have hfr := hgo.whole hsum
    have c6 := hfi.bs.cell 0
    have c7 := hfi.be.cell 0
    simp only [List.getElem?_cons_zero] at c6 c7
    have HFr := hide hfr
    have HFi := hide hfi
    clear hS hfi hgo hsum hfr
    gi_wp2
    gi_quiet (fail)
    gi_wp2
    have hKd : (W.drewN nq).heap[D]? = some (.deferred (some [])) := hK
    refine ⟨by simp, .inl ⟨_, _, rfl, run_takeDeferred hKd, ?_⟩⟩
    refine ⟨_, results_tmp2 rfl _ _ _, ?_⟩
    exact fill_end HS0.out Hlt.out HFi.out HFr.out nq D hK (by omega)
  · rintro D id pre W hD _ ⟨rfl, vs, v, e, _, hfi, hfr⟩ hK
    have c6 := hfi.bs.cell 0
    have c7 := hfi.be.cell 0
    simp only [List.getElem?_cons_zero] at c6 c7
    have HFr := hide hfr
    have HFi := hide hfi
    clear hfi hfr
    gi_wp2
    gi_quiet (fail)
    gi_wp2
    have hKd : (W.drewN nq).heap[D]? = some (.deferred (some [])) := hK
    refine ⟨by simp, .inl ⟨_, _, rfl, run_takeDeferred hKd, ?_⟩⟩
    refine ⟨_, results_tmp2 rfl _ _ _, ?_⟩
    exact fill_end HS0.out Hlt.out HFi.out HFr.out nq D hK (by omega)
end Go.Proofs.YtcmjdepjckhpdabDoor.So
namespace Go.Proofs.YtcmjdepjckhpdabDoor.So
open Go Go.RowKit Kt Kg Wr Lw Sha Dk Dg

theorem Inx.wide {w : World} {gs gm gd : Nat} {vo : Value} {Sb Sc : Nat → Prop} {L : List Bs} (h : Inx w gs gm vo Sb gd L) (hi : ∀ k, Sb k → Sc k) (ha : ∀ k, Sc k → k ≠ gs ∧ k ≠ gm ∧ vo.ownBlock ≠ some k ∧ k < w.heap.size) : Inx w gs gm vo Sc gd L := by
  obtain ⟨h1, h2, ⟨Z, h3, h4, h5⟩, _, h7, h8, h9⟩ := h
  exact ⟨h1, h2, ⟨Z, h3, h4, fun z hz => (h5 z hz).imp fun b _ hb => hi b hb⟩, ha, h7, h8, h9⟩
/-- what Put comes to -/
def PutQ (w : World) (S Sd : Nat → Prop) (gs gd : Nat) (r : Ss × Bs × Nat) (y : Ending) (w' : World) : Prop :=
  y = .returned (.tuple #[.string ⟨r.2.1.toArray⟩, .int .i64 (r.2.2 : Int)]) ∧
    ∃ S' Sd', PIn w' S' gs gd r.1.L ∧ DkIn w' Sd' gd r.1.s ∧ Oth (fun k => S k ∨ Sd k) w w' ∧ (∀ k, S' k ∨ Sd' k → S k ∨ Sd k ∨ w.heap.size ≤ k) ∧ ∀ k, S' k → ¬ Sd' k
set_option maxHeartbeats 4000000 in
set_option maxRecDepth 100000 in
theorem pput_any {w0 w : World} {S Sd : Nat → Prop} {gs gd : Nat} {L : List Bs} {s : Dk.St} (b : Bs) (A : Option Addr) (c : Nat) (Pb : Nat → Prop) (hlow : Below w0.heap.size w0 w) (hT : Tab w0) (h : PIn w S gs gd L) (hd : DkIn w Sd gd s) (hf : s.fit) (hap : ∀ k, S k → ¬ Sd k)
    (hs : Sl w Pb A c b) (hP : ∀ k, Pb k → ¬ S k ∧ ¬ Sd k) (hb : b.length ≤ 131072) (hl : L.length ≤ 1000000) :
    Calls Tryd.prog 8 #[pt gs, .slice A b.length c] w fun y w' => PutQ w S Sd gs gd (put ⟨s, L⟩ b) y w' := by
  obtain ⟨gm, vo, Sb, hx, hS, hSl⟩ := h
  have HX := hide hx
  have HD := hide hd
  have HAp := hide hap
  have HSs := hide hS
  have HSl := hide hSl
  have HP := hide hP
  have hT1 := hT.below hlow
  have HOf := hide (of_any b A c Pb w hs hT1 (by omega))
  have HHas := hide (fun (w1 : World) (hb1 : Below w.heap.size w w1) => phas_any (hx.below hb1) (sha b))
  have HNo := hide (show 131072 < b.length → False from fun x => by omega)
  have HFo := hide (fun (w1 : World) (hb1 : Below w.heap.size w w1) => pform14_any b A c Pb w1 (hs.move (w' := w1) fun k _ hlt => hb1.block k hlt) hb)
  have HAppend := hide (fun (w1 : World) (hb1 : Below w.heap.size w w1) (A' : Option Addr) (c' : Nat) (P' : Nat → Prop) (hs' : Sl w1 P' A' c' (record b)) => put_any (hd.below hb1) hf (record b) A' c' P' hs')
  have HClone := hide (fun (w1 : World) (hb1 : Oth Sd w w1) => clone_any b A c (fun k => Pb k ∧ k < w.heap.size) w1 (hs.bound.move (w' := w1) fun k hk _ => hb1.block k hk.2 (hP k hk.1).2) (by omega))
  have hgd : vo.ownBlock ≠ some gd := fun e => hap gd (hS gd (.inr (.inr (.inl e)))) hd.at
  have hput1 : sha b ∈ L.map sha → put ⟨s, L⟩ b = (⟨s, L⟩, sha b, 0) := fun hm => by unfold put; rw [if_neg (by omega), if_pos hm]
  have hput2 : ¬ sha b ∈ L.map sha → (Dk.put s (record b)).2 = 0 → put ⟨s, L⟩ b = (⟨(Dk.put s (record b)).1, L ++ [b]⟩, sha b, 0) := fun hm he => by unfold put; rw [if_neg (by omega), if_neg hm, if_pos he]
  have hput3 : ¬ sha b ∈ L.map sha → ¬ (Dk.put s (record b)).2 = 0 → put ⟨s, L⟩ b = (⟨(Dk.put s (record b)).1, L⟩, [], (Dk.put s (record b)).2) := fun hm he => by unfold put; rw [if_neg (by omega), if_neg hm, if_neg he]
  have HPut1 := hide hput1
  have HPut2 := hide hput2
  have HPut3 := hide hput3
  have HL := hide hl
  have HB := hide hb
  obtain ⟨N, hN⟩ : ∃ N, N = b.length := ⟨_, rfl⟩
  have HN := hide hN
  rw [← hN] at HOf HFo HClone ⊢
  have d1 : decide (131072 < N) = false := decide_eq_false (by omega)
  have d2 : decide ((131072 : Int) < (N : Int)) = false := decide_eq_false (by omega)
  obtain ⟨id, hid⟩ : ∃ id, id = sha b := ⟨_, rfl⟩
  have HId := hide hid
  rw [← hid] at HOf HHas HFo
  clear hx hd hap hS hSl hP hT1 hT hs hb hl hN hid hput1 hput2 hput3 hlow hf
  by_cases hm : sha b ∈ L.map sha
  · have HPUT := hide (HPut1.out hm)
    rw [← HId.out] at hm
    have hdm := decide_eq_true hm
    rw [hdm] at HHas
    clear hm hdm
    go_enter Tryd.func8, Tryd.ntmps8
    go_wp2_with fail
    refine HOf.out.mono ?_
    rintro y w1 ⟨rfl, hb1⟩
    have HB1 := hide hb1
    clear hb1
    go_wp2_with fail
    refine (HHas.out w1 HB1.out).mono ?_
    rintro y w2 ⟨rfl, hb2⟩
    have HB2 := hide (HB1.out.trans (hb2.mono HB1.out.size))
    clear hb2
    go_wp2
    refine bodyPost_ret (results_tmp2 rfl _ _ _) rfl ?_
    rw [HPUT.out]
    exact ⟨by rw [← HId.out]; rfl, S, Sd, ⟨gm, vo, Sb, HX.out.below HB2.out, HSs.out, fun k hk => Nat.lt_of_lt_of_le (HSl.out k hk) HB2.out.size⟩, HD.out.below HB2.out, Oth.of_below _ HB2.out, fun k hk => hk.elim .inl fun x => .inr (.inl x), HAp.out⟩
  · have HM := hide hm
    rw [← HId.out] at hm
    have hdm := decide_eq_false hm
    rw [hdm] at HHas
    clear hm hdm
    go_enter Tryd.func8, Tryd.ntmps8
    go_wp2_with fail
    refine HOf.out.mono ?_
    rintro y w1 ⟨rfl, hb1⟩
    have HB1 := hide hb1
    clear hb1
    go_wp2_with fail
    refine (HHas.out w1 HB1.out).mono ?_
    rintro y w2 ⟨rfl, hb2⟩
    have HB2 := hide (show Below w.heap.size w w2.drew from (HB1.out.trans (hb2.mono HB1.out.size)).drew)
    clear hb2
    have c0 : w2.drew.cell? ⟨gs, 0, none⟩ = some (.pointer (some ⟨gd, 0, none⟩)) := (HX.out.below HB2.out).row.cell 0
    go_wp2
    refine Rg.wp_region_ord (fun w' => w'.cell? ⟨gs, 0, none⟩ = some (.pointer (some ⟨gd, 0, none⟩)) ∧ True) [(0, true), (1, true), (2, true), (3, true), (4, true), (5, true), (6, false), (7, false), (8, true)] (by kernel_rfl) (by kernel_rfl) ?_
    simp only [Rg.pick, List.map_cons, List.map_nil, List.getD_cons_zero, List.getD_cons_succ]
    iterate 6 (refine Rg.ord_quiet (v := ?_) rfl (fun w' hS => ?_) ⟨c0, trivial⟩ ?_; rotate_left; (obtain ⟨s1, _⟩ := hS; go_simp; with_reducible rfl); simp only [Act.put, List.setIfInBounds_toArray, List.set_cons_succ, List.set_cons_zero])
    refine Rg.ord_loud rfl (fun K hK => ?_)
    go_simp
    refine (HFo.out w2.drew HB2.out).mono ?_
    rintro y w3 ⟨v3, rfl, hown3, hb3⟩
    have HB3 := hide (HB2.out.trans (hb3.mono HB2.out.size))
    obtain ⟨A3, c3, rfl, hs3⟩ := hown3.sl
    have HPt := hide (HAppend.out w3 HB3.out A3 c3 _ hs3)
    obtain ⟨R, hR⟩ : ∃ R, R = (record b).length := ⟨_, rfl⟩
    rw [← hR] at HPt ⊢
    have d0 : w3.cell? ⟨gs, 0, none⟩ = some (.pointer (some ⟨gd, 0, none⟩)) := (HX.out.below HB3.out).row.cell 0
    clear hown3 hb3 hs3 HB2 hR HB1
    refine hK _ _ (fun _ => ⟨d0, trivial⟩) ?_
    clear hK K c0
    refine Rg.ord_loud rfl (fun K hK => ?_)
    go_simp
    refine HPt.out.mono ?_
    rintro y w4 ⟨rfl, Sd4, hd4, hO4, hS4⟩
    have HD4 := hide hd4
    have HOa := hide (show Oth Sd w w4 from (Oth.of_below Sd HB3.out).trans hO4 fun _ _ x => x)
    have HS4 := hide (show ∀ k, Sd4 k → Sd k ∨ w.heap.size ≤ k from fun k hk => (hS4 k hk).imp (fun z => z) fun x => Nat.le_trans HB3.out.size x)
    have hx4 : Inx w4 gs gm vo Sb gd L := HX.out.move (fun k hk => HOa.out.block k (HX.out.all_lt k hk) (HAp.out k (HSs.out k hk))) HOa.out.size
    have HX4 := hide hx4
    have e0 : w4.cell? ⟨gs, 0, none⟩ = some (.pointer (some ⟨gd, 0, none⟩)) := hx4.row.cell 0
    have HApp4 := hide (show ∀ k, S k → ¬ Sd4 k from fun k h1 h2 => (HS4.out k h2).elim (HAp.out k h1) fun x => by have := HSl.out k h1; omega)
    clear hd4 hO4 hS4 hx4 HPt HB3 d0
    refine hK _ _ (fun _ => ⟨e0, trivial⟩) ?_
    clear hK K
    iterate 1 (refine Rg.ord_quiet (v := ?_) rfl (fun w' hS => ?_) ⟨e0, trivial⟩ ?_; rotate_left; (obtain ⟨s1, _⟩ := hS; go_simp; with_reducible rfl); simp only [Act.put, List.setIfInBounds_toArray, List.set_cons_succ, List.set_cons_zero])
    refine Rg.ord_nil ?_
    clear e0
    by_cases he : (Dk.put s (record b)).2 = 0
    · have HPUT := hide (HPut2.out HM.out he)
      obtain ⟨st, hst⟩ : ∃ z, z = (Dk.put s (record b)).1 := ⟨_, rfl⟩
      rw [← hst] at HD4 HPUT
      generalize (Dk.put s (record b)).2 = r2 at *
      subst he
      have hz2 : (((0 : Nat) : Int) != 0) = false := rfl
      have HCl := hide (HClone.out w4 HOa.out)
      clear hst HPut1 HPut2 HPut3
      go_wp2_with fail
      refine HCl.out.mono ?_
      rintro y w5 ⟨v5, rfl, hown5, hb5⟩
      obtain ⟨A5, c5, rfl, hs5⟩ := hown5.sl
      rw [← HN.out]
      have hx5 := HX4.out.below hb5
      have hlt5 : ∀ k, w4.heap.size ≤ k ∧ (Value.slice A5 b.length c5).ownBlock = some k → w4.heap.size ≤ k ∧ k < w5.heap.size := fun k hk => ⟨hk.1, (World.ownsRow.lt hown5 k hk.2).2⟩
      have hw5 : Inx w5 gs gm vo (fun k => Sb k ∨ (w4.heap.size ≤ k ∧ (Value.slice A5 b.length c5).ownBlock = some k)) gd L := hx5.wide (fun k hk => .inl hk) fun k hk => by
        rcases hk with hk | hk
        · exact hx5.apart k hk
        · have h1 := hlt5 k hk
          have h2 := HX4.out.all_lt
          refine ⟨fun e => ?_, fun e => ?_, fun e => ?_, h1.2⟩
          · have := h2 k (.inl e); omega
          · have := h2 k (.inr (.inl e)); omega
          · have := h2 k (.inr (.inr (.inl e))); omega
      have HAd := hide (padd_any hw5 b A5 c5 (hs5.imp fun k _ hk => .inr hk) HM.out (by have := HL.out; omega) HB.out)
      rw [← HId.out, ← HN.out] at HAd
      have HFin := hide (fun (w6 : World) (vo' : Value) (h6 : Inx w6 gs gm vo' (fun k => Sb k ∨ (w4.heap.size ≤ k ∧ (Value.slice A5 b.length c5).ownBlock = some k)) gd (L ++ [b])) (ho : Oth (fun k => k = gs ∨ k = gm ∨ vo.ownBlock = some k) w5 w6) (hn : ∀ k, vo'.ownBlock = some k → vo.ownBlock = some k ∨ w5.heap.size ≤ k) =>
        show PutQ w S Sd gs gd (⟨st, L ++ [b]⟩, id, 0) (.returned (.tuple #[.string ⟨id.toArray⟩, .int .i64 0])) w6 from by
        have hT : ∀ k, (k = gs ∨ k = gm ∨ vo.ownBlock = some k) → S k := fun k hk => HSs.out k (by rcases hk with x | x | x; exact .inl x; exact .inr (.inl x); exact .inr (.inr (.inl x)))
        have hsz := HOa.out.size
        have hin : ∀ k, (k = gs ∨ k = gm ∨ vo'.ownBlock = some k ∨ (Sb k ∨ (w4.heap.size ≤ k ∧ (Value.slice A5 b.length c5).ownBlock = some k))) → S k ∨ w4.heap.size ≤ k := fun k hk => by
          rcases hk with x | x | x | x | x
          · exact .inl (hT k (.inl x))
          · exact .inl (hT k (.inr (.inl x)))
          · rcases hn k x with y | y
            · exact .inl (hT k (.inr (.inr y)))
            · exact .inr (Nat.le_trans hb5.size y)
          · exact .inl (HSs.out k (.inr (.inr (.inr x))))
          · exact .inr x.1
        have hoth : Oth (fun k => S k ∨ Sd k) w w6 := (HOa.out.mono (T := fun k => S k ∨ Sd k) fun k _ x => .inr x).trans ((Oth.of_below (fun k => k = gs ∨ k = gm ∨ vo.ownBlock = some k) hb5).trans ho fun _ _ x => x) fun i hi x => .inl (hT i x)
        refine ⟨rfl, fun k => k = gs ∨ k = gm ∨ vo'.ownBlock = some k ∨ (Sb k ∨ (w4.heap.size ≤ k ∧ (Value.slice A5 b.length c5).ownBlock = some k)), Sd4, ⟨gm, vo', _, h6, fun k hk => hk, fun k hk => h6.all_lt k hk⟩, ?_, hoth, ?_, ?_⟩
        · exact (HD4.out.below hb5).oth ho fun k hk x => HApp4.out k (hT k x) hk
        · intro k hk
          rcases hk with hk | hk
          · exact (hin k hk).imp (fun x => x) fun x => .inr (by omega)
          · exact .inr (HS4.out k hk)
        · intro k hk hd4
          rcases hin k hk with x | x
          · exact HApp4.out k x hd4
          · have := HD4.out.lt k hd4; omega)
      rw [← HN.out] at HFin
      clear hown5 hb5 hs5 hx5 hlt5 hw5 HCl
      go_wp2_with fail
      refine HAd.out.mono ?_
      rintro y w6 ⟨rfl, vo', h6, ho, hn⟩
      have HF := hide (HFin.out w6 vo' h6 ho hn)
      clear h6 ho hn HFin HAd
      go_wp2
      refine bodyPost_ret (results_tmp2 rfl _ _ _) rfl ?_
      rw [HPUT.out, ← HId.out]
      exact HF.out
    · have HPUT := hide (HPut3.out HM.out he)
      have hz : (((Dk.put s (record b)).2 : Int) != 0) = true := by rw [bne_iff_ne]; omega
      obtain ⟨st, hst⟩ : ∃ z, z = (Dk.put s (record b)).1 := ⟨_, rfl⟩
      rw [← hst] at HD4 HPUT
      generalize (Dk.put s (record b)).2 = r2 at *
      clear he hst HPut1 HPut2 HPut3
      go_wp2
      refine bodyPost_ret (results_tmp2 rfl _ _ _) rfl ?_
      rw [HPUT.out]
      exact ⟨rfl, S, Sd4, ⟨gm, vo, Sb, HX4.out, HSs.out, fun k hk => Nat.lt_of_lt_of_le (HSl.out k hk) HOa.out.size⟩, HD4.out, HOa.out.mono fun k _ x => .inr x, fun k hk => hk.elim .inl fun x => .inr (HS4.out k x), HApp4.out⟩
end Go.Proofs.YtcmjdepjckhpdabDoor.So
namespace Go.Proofs.YtcmjdepjckhpdabDoor.So
open Go Go.RowKit Kt Kg Wr Lw Sha Dk Dg

/-- what Open comes to -/
def OpenQ (w : World) (Sd : Nat → Prop) (gd : Nat) (s : Dk.St) (y : Ending) (w' : World) : Prop :=
  ((op [] s.k 0).1 ≠ 0 ∧ y = .returned (.tuple #[.pointer none, .int .i64 ((op [] s.k 0).1 : Int)]) ∧ ∃ Sd', DkIn w' Sd' gd s ∧ Oth Sd w w' ∧ ∀ k, Sd' k → Sd k ∨ w.heap.size ≤ k) ∨
  ((op [] s.k 0).1 = 0 ∧ ∃ gs S Sd', y = .returned (.tuple #[pt gs, .int .i64 0]) ∧ PIn w' S gs gd (op [] s.k 0).2.1 ∧ (∀ k, S k → w.heap.size ≤ k) ∧
    DkIn w' Sd' gd ⟨s.k.take (op [] s.k 0).2.2, s.room, s.fuse, s.dead⟩ ∧ Oth Sd w w' ∧ (∀ k, Sd' k → Sd k ∨ w.heap.size ≤ k) ∧ ∀ k, S k → ¬ Sd' k)
theorem inx_new {w w1 : World} {gd gm gs : Nat} (hgm : gm = w.heap.size) (hgs : gs = gm + 1) (hw : w1 = (w.alloc (.map #[] 0)).alloc (.cells #[pt gd, .slice none 0 0, .map (some gm)] tSto)) : Inx w1 gs gm (.slice none 0 0) (fun _ => False) gd [] := by
  have hsz : (w.alloc (.map #[] 0)).heap.size = gm + 1 := by rw [hgm]; simp
  refine ⟨?_, ?_, ⟨[], rfl, OwB.nil _, fun z hz => by cases hz⟩, fun k hk => hk.elim, ⟨fun h => (by cases h), fun h => (by cases h), by omega⟩, by simp, fun b hb => by cases hb⟩
  · rw [hw, hgs, ← hsz]; exact Row.fresh _ tSto _
  · rw [hw, Below.heap_alloc _ _ gm (by omega), hgm]
    exact World.alloc_heap_new _ _
theorem take_all {s : Dk.St} {n : Nat} (h : n = s.k.length) : (⟨s.k.take n, s.room, s.fuse, s.dead⟩ : Dk.St) = s := by rw [h, List.take_length]
set_option maxHeartbeats 4000000 in
set_option maxRecDepth 100000 in
theorem popen_any {w0 w : World} {Sd : Nat → Prop} {gd : Nat} {s : Dk.St} (hlow : Below w0.heap.size w0 w) (hT : Tab w0) (hd : DkIn w Sd gd s) (hf : s.fit) (hdead : s.dead = false) :
    Calls Tryd.prog 7 #[pt gd] w fun y w' => OpenQ w Sd gd s y w' := by
  have HDead := hide (dead_any hd)
  rw [hdead] at HDead
  obtain ⟨gm, hgm⟩ : ∃ z, z = w.heap.size := ⟨_, rfl⟩
  obtain ⟨w1, hw1⟩ : ∃ z, z = w.alloc (.map #[] 0) := ⟨_, rfl⟩
  obtain ⟨gs, hgs⟩ : ∃ z, z = w1.heap.size := ⟨_, rfl⟩
  obtain ⟨w2, hw2⟩ : ∃ z, z = w1.alloc (.cells #[pt gd, .slice none 0 0, .map (some gm)] tSto) := ⟨_, rfl⟩
  have hgs' : gs = gm + 1 := by rw [hgs, hw1, hgm]; simp
  have hx2 : Inx w2 gs gm (.slice none 0 0) (fun _ => False) gd [] := inx_new hgm hgs' (by rw [hw2, hw1])
  have hb2 : Below w.heap.size w w2 := by rw [hw2, hw1]; exact ((Below.refl _ w).alloc (Nat.le_refl _) _).alloc (by simp) _
  have hmk : (Instr.makeMap tMp none).run Tryd.prog w = .ok (.map (some gm)) w1 := by rw [run_makeMap, hgm, hw1]
  have HBy := hide (bytes_call (hd.below hb2) hf)
  have HX2 := hide hx2
  have HB2 := hide hb2
  have HD := hide hd
  have HLow := hide hlow
  have HT := hide hT
  have Hdead := hide hdead
  have Hgm := hide hgm
  have Hgs := hide hgs
  have Hgs' := hide hgs'
  have Hw2 := hide hw2
  have Hf := hide hf
  clear hlow hT hd hf hdead hgm hw1 hgs hw2 hgs' hx2 hb2
  go_enter Tryd.func7, Tryd.ntmps7
  go_wp2_with fail
  refine HDead.out.mono ?_
  rintro y w' ⟨rfl, rfl⟩
  clear HDead
  go_wp2_with fail
  rw [← Hw2.out, ← Hgs.out]
  refine HBy.out.mono ?_
  rintro y w3 ⟨v3, rfl, hown3, hb3⟩
  obtain ⟨A3, c3, rfl, hs3⟩ := hown3.sl
  have hlt3 : ∀ k, (w2.heap.size ≤ k ∧ (Value.slice A3 s.k.length c3).ownBlock = some k) → w2.heap.size ≤ k ∧ k < w3.heap.size := fun k hk => ⟨hk.1, (World.ownsRow.lt hown3 k hk.2).2⟩
  have hx3 : Inx w3 gs gm (.slice none 0 0) (fun k => w2.heap.size ≤ k ∧ (Value.slice A3 s.k.length c3).ownBlock = some k) gd [] := (HX2.out.below hb3).wide (fun k hk => hk.elim) fun k hk => by
    have h1 := hlt3 k hk
    have h2 := HX2.out.all_lt
    refine ⟨fun e => ?_, fun e => ?_, fun e => (by cases e), h1.2⟩
    · have := h2 k (.inl e); omega
    · have := h2 k (.inr (.inl e)); omega
  have HB3 := hide (HB2.out.trans (hb3.mono HB2.out.size))
  have HFill := hide (pfill_any s.k A3 c3 (HLow.out.trans (HB3.out.mono HLow.out.size)) HT.out hx3 hs3 (by have := HLow.out.size; rw [Hgs'.out, Hgm.out]; omega) (by have := Hf.out.1; have := Hf.out.2.1; omega))
  obtain ⟨N, hN⟩ : ∃ z, z = s.k.length := ⟨_, rfl⟩
  rw [← hN] at HFill ⊢
  have HN := hide hN
  have HL3 := hide hlt3
  clear hown3 hb3 hs3 hlt3 hx3 hN HBy
  go_wp2_with fail
  refine HFill.out.mono ?_
  rintro y w4 ⟨size, e, L, vo, rfl, hfr, hx4, ho4, hvo⟩
  have hgw : w.heap.size ≤ gs ∧ w.heap.size ≤ gm := by rw [Hgs'.out, Hgm.out]; omega
  have HB4 := hide (ho4.below HB3.out HB3.out.size fun k hk x => by rcases x with x | x <;> omega)
  have HX4 := hide hx4
  have hSb : ∀ k, (k = gs ∨ k = gm ∨ vo.ownBlock = some k ∨ (w2.heap.size ≤ k ∧ (Value.slice A3 N c3).ownBlock = some k)) → w.heap.size ≤ k ∧ k < w4.heap.size := fun k hk => by
    refine ⟨?_, hx4.all_lt k hk⟩
    rcases hk with x | x | x | x
    · omega
    · omega
    · have := hvo k x; have := HB3.out.size; omega
    · have := x.1; have := HB2.out.size; omega
  have HSb := hide hSb
  have HFr := hide hfr
  clear hfr hx4 ho4 hvo hgw hSb HFill
  by_cases he0 : e = 0
  · subst he0
    have hq : (((0 : Nat) : Int) == 2) = false := rfl
    have hz : (((0 : Nat) : Int) != 0) = false := rfl
    go_wp2
    refine bodyPost_ret (results_tmp2 rfl _ _ _) rfl ?_
    rcases HFr.out with ⟨h1, h2⟩ | ⟨h1, _⟩
    · have hsz : size = s.k.length := by rcases h1 with ⟨_, h⟩ | ⟨h, _⟩; exact h; cases h
      refine .inr ⟨by rw [h2], gs, _, Sd, rfl, ⟨gm, vo, _, by rw [h2]; exact HX4.out, fun k hk => hk, fun k hk => (HSb.out k hk).2⟩, fun k hk => (HSb.out k hk).1, ?_, Oth.of_below _ HB4.out, fun k hk => .inl hk, fun k hk h => ?_⟩
      · rw [h2, take_all hsz]
        exact HD.out.below HB4.out
      · have := (HSb.out k hk).1; have := HD.out.lt k h; omega
    · exact absurd rfl h1
  · by_cases he2 : e = 2
    · subst he2
      have hq : (((2 : Nat) : Int) == 2) = true := rfl
      obtain ⟨h2, hle⟩ : op [] s.k 0 = (0, L, size) ∧ size ≤ s.k.length := by
        rcases HFr.out with ⟨h1, h2⟩ | ⟨_, h1, _⟩
        · rcases h1 with ⟨h, _⟩ | ⟨_, h⟩
          · cases h
          · exact ⟨h2, h⟩
        · exact absurd rfl h1
      have hcut : Dk.cut s (size : Int) = (⟨s.k.take size, s.room, s.fuse, false⟩, 0) := by
        unfold Dk.cut
        rw [if_neg (by rw [Hdead.out]; decide), if_neg (by omega)]
        rfl
      have HCut := hide (cut_any (HD.out.below HB4.out) (size : Int))
      rw [hcut] at HCut
      have H2 := hide h2
      clear h2 hle hcut he0
      go_wp2_with fail
      refine HCut.out.mono ?_
      rintro y w5 ⟨rfl, Sd5, hd5, ho5, hS5⟩
      have HD5 := hide hd5
      have HO5 := hide ho5
      have HS5 := hide hS5
      have hz : (((0 : Nat) : Int) != 0) = false := rfl
      clear hd5 ho5 hS5 HCut
      go_wp2
      refine bodyPost_ret (results_tmp2 rfl _ _ _) rfl ?_
      have hno : ∀ k, (k = gs ∨ k = gm ∨ vo.ownBlock = some k ∨ (w2.heap.size ≤ k ∧ (Value.slice A3 N c3).ownBlock = some k)) → ¬ Sd k := fun k hk h => by
        have := (HSb.out k hk).1; have := HD.out.lt k h; omega
      refine .inr ⟨by rw [H2.out], gs, _, Sd5, rfl, ⟨gm, vo, _, by rw [H2.out]; exact HX4.out.move (fun k hk => HO5.out.block k (HSb.out k hk).2 (hno k hk)) HO5.out.size, fun k hk => hk, fun k hk => Nat.lt_of_lt_of_le (HSb.out k hk).2 HO5.out.size⟩, fun k hk => (HSb.out k hk).1, ?_, (Oth.of_below Sd HB4.out).trans HO5.out fun _ _ x => x, fun k hk => (HS5.out k hk).imp (fun x => x) fun x => Nat.le_trans HB4.out.size x, fun k hk h => ?_⟩
      · rw [H2.out, Hdead.out]
        exact HD5.out
      · rcases HS5.out k h with x | x
        · exact hno k hk x
        · have := (HSb.out k hk).2; omega
    · have hq : ((e : Int) == 2) = false := by rw [beq_eq_false_iff_ne]; omega
      have hz : ((e : Int) != 0) = true := by rw [bne_iff_ne]; omega
      have h2 : op [] s.k 0 = (e, [], 0) := by
        rcases HFr.out with ⟨h1, _⟩ | ⟨_, _, h1⟩
        · rcases h1 with ⟨h, _⟩ | ⟨h, _⟩
          · exact absurd h he0
          · exact absurd h he2
        · exact h1
      have H2 := hide h2
      have He0 := hide he0
      clear h2 he0 he2
      go_wp2
      refine bodyPost_ret (results_tmp2 rfl _ _ _) rfl ?_
      exact .inl ⟨by rw [H2.out]; exact He0.out, by rw [H2.out]; rfl, Sd, HD.out.below HB4.out, Oth.of_below _ HB4.out, fun k hk => .inl hk⟩
/-- the program's store keeps the contract -/
theorem ct_any {w0 : World} (hT : Tab w0) : Ct w0 PIn where
  lt := fun h => h.lt
  move := fun h hk hsz => h.move hk hsz
  many := fun _ ⟨_, _, _, h, _⟩ _ => pmany_any h
  has := fun id _ ⟨_, _, _, h, _⟩ _ => phas_any h id
  get := fun id _ ⟨_, _, _, h, _⟩ _ => pget_any h id
  ids := fun _ ⟨_, _, _, h, _⟩ hl => pids_any h (by omega)
  put := fun b A c Pb hlow h hd hf hap _ hs hP hb hl => pput_any b A c Pb hlow hT h hd hf hap hs hP (by omega) (by omega)
  opened := fun hlow hd hf hdead _ _ => popen_any hlow hT hd hf hdead
end Go.Proofs.YtcmjdepjckhpdabDoor.So
namespace Go.Proofs.YtcmjdepjckhpdabDoor.So
open Go Go.ChangeShapes Go.WideShapes Go.ChangeAt Go.RowKit Kt

theorem own : ownKnob Tryd.prog.godebug = none := by kernel_rfl
theorem laidOut : laidOutB Tryd.prog = true := by kernel_rfl
theorem cells8 : Tryd.prog.cellsOf 5 = 1 := by kernel_rfl
theorem gTab : Tryd.prog.globalNamed "grapevine/digest.steps" = some 1 := by kernel_rfl
theorem gTabType : (Tryd.prog.globals[1]?).map (·.type) = some 74 := by kernel_rfl
theorem gTabR : Tryd.prog.globalNamed "grapevine/grapevineref01.keys" = some 0 := by kernel_rfl
theorem gTabTypeR : (Tryd.prog.globals[0]?).map (·.type) = some 74 := by kernel_rfl
theorem cells64 : Tryd.prog.cellsOf 74 = 64 := by kernel_rfl
theorem cells32 : Tryd.prog.cellsOf 70 = 1 := by kernel_rfl
def keysI : List Int := [1116352408, 1899447441, 3049323471, 3921009573, 961987163, 1508970993, 2453635748, 2870763221, 3624381080, 310598401, 607225278, 1426881987, 1925078388, 2162078206, 2614888103, 3248222580, 3835390401, 4022224774, 264347078, 604807628, 770255983, 1249150122, 1555081692, 1996064986, 2554220882, 2821834349, 2952996808, 3210313671, 3336571891, 3584528711, 113926993, 338241895, 666307205, 773529912, 1294757372, 1396182291, 1695183700, 1986661051, 2177026350, 2456956037, 2730485921, 2820302411, 3259730800, 3345764771, 3516065817, 3600352804, 4094571909, 275423344, 430227734, 506948616, 659060556, 883997877, 958139571, 1322822218, 1537002063, 1747873779, 1955562222, 2024104815, 2227730452, 2361852424, 2428436474, 2756734187, 3204031479, 3329325298]
theorem keysI_get : ∀ i, i < 64 → keysI.getD i 0 = ((Sha.keys.getD i 0 : Nat) : Int) := by decide +kernel
theorem tab_of {W : World} (h : Lib.TabIs Tryd.prog W "grapevine/digest.steps" .u32 keysI) : Dg.Tab W := by
  intro i hi
  rw [h.cell gTab i (by simpa [keysI] using hi), keysI_get i hi]
theorem tabR_of {W : World} (h : Lib.TabIs Tryd.prog W "grapevine/grapevineref01.keys" .u32 keysI) : Dg.TabR W := by
  intro i hi
  rw [h.cell gTabR i (by simpa [keysI] using hi), keysI_get i hi]
abbrev laid2 : List (String × DataW Unit) := [("grapevine/grapevineref01.keys", Rows.laid_grapevine_grapevineref01_keys), ("grapevine/digest.steps", Rows.laid_grapevine_digest_steps)]
theorem tabs {W : World} (h : laidMetH Tryd.prog laid2 W) : Dg.Tab W ∧ Dg.TabR W := by
  have h1 : laidMet Tryd.prog [("grapevine/digest.steps", Rows.laid_grapevine_digest_steps)] W := h.filter fun x => x.1 == "grapevine/digest.steps"
  have h2 : laidMet Tryd.prog [("grapevine/grapevineref01.keys", Rows.laid_grapevine_grapevineref01_keys)] W := h.filter fun x => x.1 == "grapevine/grapevineref01.keys"
  exact ⟨tab_of (Lib.tabIs_of_head (rest := []) gTab gTabType Tryd.underlying74 Tryd.underlying70 cells32 cells64 h1), tabR_of (Lib.tabIs_of_head (rest := []) gTabR gTabTypeR Tryd.underlying74 Tryd.underlying70 cells32 cells64 h2)⟩
end Go.Proofs.YtcmjdepjckhpdabDoor.So
