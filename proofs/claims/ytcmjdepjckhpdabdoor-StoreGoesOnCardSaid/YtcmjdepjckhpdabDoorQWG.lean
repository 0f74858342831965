/-
  A reader in memory; what its calls' closures come to.
-/
import Derived.Test.YtcmjdepjckhpdabDoorQRegD
import Derived.Test.YtcmjdepjckhpdabDoorQZB
import Derived.Test.YtcmjdepjckhpdabDoorWD
import Derived.Test.YtcmjdepjckhpdabDoorQSE
import Derived.BigQuiet

namespace Go.Proofs.YtcmjdepjckhpdabDoor.Wr
open Go Go.RowKit Kt

/-- nothing that was there has turned but the blocks of S -/
structure Only (S : Nat → Prop) (w w' : World) : Prop where
  os : w'.os = w.os
  tape : w'.tape = w.tape
  output : w'.output = w.output
  size : w.heap.size ≤ w'.heap.size
  block : ∀ k, k < w.heap.size → ¬ S k → w'.heap[k]? = w.heap[k]?
theorem Only.refl (S : Nat → Prop) (w : World) : Only S w w := ⟨rfl, rfl, rfl, Nat.le_refl _, fun _ _ _ => rfl⟩
theorem Only.trans {S : Nat → Prop} {a b c : World} (h : Only S a b) (k : Only S b c) : Only S a c :=
  ⟨k.os.trans h.os, k.tape.trans h.tape, k.output.trans h.output, Nat.le_trans h.size k.size, fun i hi hn => (k.block i (Nat.lt_of_lt_of_le hi h.size) hn).trans (h.block i hi hn)⟩
theorem Only.mono {S T : Nat → Prop} {a b : World} (h : Only S a b) (hi : ∀ k, k < a.heap.size → S k → T k) : Only T a b := ⟨h.os, h.tape, h.output, h.size, fun i hl hn => h.block i hl fun hs => hn (hi i hl hs)⟩
theorem Only.of_below {a b : World} (S : Nat → Prop) (h : Below a.heap.size a b) : Only S a b := ⟨h.os, h.tape, h.output, h.size, fun i hl _ => h.block i hl⟩
theorem Only.below {S : Nat → Prop} {B : Nat} {w0 a b : World} (h : Only S a b) (hb : Below B w0 a) (hB : B ≤ a.heap.size) (hS : ∀ k, k < B → ¬ S k) : Below B w0 b :=
  ⟨h.os.trans hb.os, h.tape.trans hb.tape, h.output.trans hb.output, Nat.le_trans hb.size h.size, fun k hk => (h.block k (by omega) (hS k hk)).trans (hb.block k hk)⟩
theorem Only.drew {S : Nat → Prop} {a b : World} (h : Only S a b) : Only S a b.drew := ⟨h.os, h.tape, h.output, h.size, h.block⟩
theorem Only.put {S : Nat → Prop} {a b : World} (h : Only S a b) {g i : Nat} (hg : S g) (u : Value) : Only S a (b.setCell ⟨g, i, none⟩ u) :=
  ⟨h.os, h.tape, h.output, by simpa [World.setCell] using h.size, fun k hk hn => (Below.heap_setCell b ⟨g, i, none⟩ u k (fun e => hn (by rw [e]; exact hg))).trans (h.block k hk hn)⟩
theorem _root_.Go.Proofs.YtcmjdepjckhpdabDoor.Kt.Row.only {S : Nat → Prop} {w w' : World} {g : Nat} {t : TypeId} {cs : List Value} (h : Row w g t cs) (ho : Only S w w') (hg : ¬ S g) : Row w' g t cs := (ho.block g h.lt hg).trans h
theorem _root_.Go.Proofs.YtcmjdepjckhpdabDoor.Kt.Sl.only {S P : Nat → Prop} {w w' : World} {A : Option Addr} {c : Nat} {bs : List UInt8} (h : Sl w P A c bs) (ho : Only S w w') (hp : ∀ b, P b → ¬ S b) : Sl w' P A c bs := h.move fun b hb hlt => ho.block b hlt (hp b hb)

/-- a slice's rest -/
def cutV (A : Option Addr) (n c k : Nat) : Value := .slice (if c = k then A else A.map (·.add k)) (n - k) (c - k)
theorem run_cut (w : World) (A : Option Addr) (n c k : Nat) (hk : k ≤ n) (_hn : n ≤ c) :
    (Instr.slice 38 (.slice A n c) (some (.int .i64 (k : Int))) none none).run Tryd.prog w = .ok (cutV A n c k) w := by
  have hu := run_underlying Tryd.underlying38
  unfold cutV
  cases A with
  | none =>
    go_simp
  | some ad =>
    go_simp

set_option maxHeartbeats 2000000 in
set_option maxRecDepth 100000 in
theorem num_clo (bs : List UInt8) (A : Option Addr) (c g br bn x n k e : Nat) (Pb : Nat → Prop) (w : World) (hr : Row w br 99 [.pointer (some ⟨g, 0, none⟩)]) (hn : Row w bn 87 [.int .u64 (x : Int)])
    (hg : Row w g 106 [.slice A bs.length c, .int .i64 0]) (hs : Sl w Pb A c bs) (_hP : ∀ b, Pb b → b ≠ bn) (hnr : bn ≠ br) (hgr : g ≠ br) (hgn : g ≠ bn)
    (hl : bs.length ≤ 70368744177664) (hnum : numOf bs = (n, k, e)) :
    Calls Tryd.prog 53 #[.pointer (some ⟨br, 0, none⟩), .pointer (some ⟨bn, 0, none⟩)] w fun y w' => y = .returned (.int .i64 (e : Int)) ∧
      Row w' bn 87 [.int .u64 (n : Int)] ∧ Row w' g 106 [cutV A bs.length c k, .int .i64 (e : Int)] ∧ Only (fun b => b = g ∨ b = bn) w w' := by
  have hkl : k ≤ bs.length := by
    by_cases he : e = 0
    · subst he; exact (numOf_ok bs n k hnum).2.2.2.1
    · have := numOf_fail bs n k e hnum he; omega
  have hcut := fun w => run_cut w A bs.length c k hkl hs.1
  obtain ⟨A2, hA2⟩ : ∃ A2, (if c = k then A else A.map (·.add k)) = A2 := ⟨_, rfl⟩
  have hV : cutV A bs.length c k = .slice A2 (bs.length - k) (c - k) := by unfold cutV; rw [hA2]
  rw [hV] at hcut ⊢
  clear hV hA2
  have Hcut := hide hcut
  have Hs := hide hs
  have Hr := hide hr
  have Hn := hide hn
  have Hg := hide hg
  have c1 : w.cell? ⟨br, 0, none⟩ = some (.pointer (some ⟨g, 0, none⟩)) := hr.cell 0
  have c2 : w.cell? ⟨g, 0, none⟩ = some (.slice A bs.length c) := hg.cell 0
  have c3 : w.cell? ⟨g, 1, none⟩ = some (.int .i64 0) := hg.cell 1
  have c4 : w.cell? ⟨bn, 0, none⟩ = some (.int .u64 (x : Int)) := hn.cell 0
  have f1 := hg.free 0
  have f2 := hg.free 1
  have f3 := hn.free 0
  clear hr hn hg hs hcut
  go_enter Tryd.func53, Tryd.ntmps53
  go_wp2
  refine Rg.wp_region_ord (fun w' => w'.cell? ⟨br, 0, none⟩ = some (.pointer (some ⟨g, 0, none⟩)) ∧ w'.cell? ⟨g, 0, none⟩ = some (.slice A bs.length c)) [(0, true), (1, true), (2, true), (3, true), (4, true), (5, false), (6, true), (7, true), (8, true), (9, true), (10, false), (11, true), (12, true), (13, true), (14, false)] (by kernel_rfl) (by kernel_rfl) ?_
  simp only [Rg.pick, List.map_cons, List.map_nil, List.getD_cons_zero, List.getD_cons_succ]
  iterate 5 (refine Rg.ord_quiet (v := ?_) rfl (fun w' hS => ?_) ⟨c1, c2⟩ ?_; rotate_left; (obtain ⟨s1, s2⟩ := hS; go_simp; with_reducible rfl); simp only [Act.put, List.setIfInBounds_toArray, List.set_cons_succ, List.set_cons_zero])
  refine Rg.ord_loud rfl (fun K hK => ?_)
  go_simp
  refine (number_any bs A c Pb w.drew Hs.out hl).mono ?_
  rintro y w1 ⟨rfl, rfl⟩
  refine hK _ _ (fun _ => ⟨c1, c2⟩) ?_
  clear hK K
  rw [hnum]
  simp only [numV]
  iterate 4 (refine Rg.ord_quiet (v := ?_) rfl (fun w' hS => ?_) ⟨c1, c2⟩ ?_; rotate_left; (obtain ⟨s1, s2⟩ := hS; go_simp; with_reducible rfl); simp only [Act.put, List.setIfInBounds_toArray, List.set_cons_succ, List.set_cons_zero])
  refine Rg.ord_loud rfl (fun K hK => ?_)
  go_simp
  have hn2 := Hn.out.put 0 (.int .u64 (n : Int))
  have hg2 := Hg.out.off hgn (i := 0) (.int .u64 (n : Int))
  have hr2 := Hr.out.off (Ne.symm hnr) (i := 0) (.int .u64 (n : Int))
  have ho2 := (Only.refl (fun b => b = g ∨ b = bn) w).put (g := bn) (i := 0) (.inr rfl) (.int .u64 (n : Int))
  obtain ⟨w2, hw2⟩ : ∃ w2, w2 = w.setCell ⟨bn, 0, none⟩ (.int .u64 (n : Int)) := ⟨_, rfl⟩
  rw [← hw2] at hn2 hg2 hr2 ho2 ⊢
  have Hn2 := hide hn2
  have Hg2 := hide hg2
  have Hr2 := hide hr2
  have Ho2 := hide ho2
  clear hw2 c1 c2 c3 c4 f1 f2 f3
  have c1 : w2.cell? ⟨br, 0, none⟩ = some (.pointer (some ⟨g, 0, none⟩)) := hr2.cell 0
  have c2 : w2.cell? ⟨g, 0, none⟩ = some (.slice A bs.length c) := hg2.cell 0
  have c3 : w2.cell? ⟨g, 1, none⟩ = some (.int .i64 0) := hg2.cell 1
  have f2 := hg2.free 1
  clear hn2 hg2 hr2 ho2
  refine hK _ _ (fun _ => ⟨c1, c2⟩) ?_
  clear hK K
  iterate 3 (refine Rg.ord_quiet (v := ?_) rfl (fun w' hS => ?_) ⟨c1, c2⟩ ?_; rotate_left; (obtain ⟨s1, s2⟩ := hS; go_simp; with_reducible rfl); simp only [Act.put, List.setIfInBounds_toArray, List.set_cons_succ, List.set_cons_zero])
  refine Rg.ord_loud rfl (fun K hK => ?_)
  go_simp
  have hn3 := Hn2.out.off (Ne.symm hgn) (i := 1) (.int .i64 (e : Int))
  have hg3 := Hg2.out.put 1 (.int .i64 (e : Int))
  have hr3 := Hr2.out.off (Ne.symm hgr) (i := 1) (.int .i64 (e : Int))
  have ho3 := Ho2.out.put (g := g) (i := 1) (.inl rfl) (.int .i64 (e : Int))
  obtain ⟨w3, hw3⟩ : ∃ w3, w3 = w2.setCell ⟨g, 1, none⟩ (.int .i64 (e : Int)) := ⟨_, rfl⟩
  rw [← hw3] at hn3 hg3 hr3 ho3 ⊢
  have Hn3 := hide hn3
  have Hg3 := hide hg3
  have Ho3 := hide ho3
  have Hr3 := hide hr3
  clear hw3 c1 c2 c3 f2
  have c1 : w3.cell? ⟨br, 0, none⟩ = some (.pointer (some ⟨g, 0, none⟩)) := hr3.cell 0
  have c2 : w3.cell? ⟨g, 0, none⟩ = some (.slice A bs.length c) := hg3.cell 0
  have c3 : w3.cell? ⟨g, 1, none⟩ = some (.int .i64 (e : Int)) := hg3.cell 1
  have f1 := hg3.free 0
  clear hn3 hg3 hr3 ho3
  refine hK _ _ (fun _ => ⟨c1, c2⟩) ?_
  clear hK K
  refine Rg.ord_nil ?_
  go_wp2
  refine Rg.wp_region_ord (fun w' => w'.cell? ⟨br, 0, none⟩ = some (.pointer (some ⟨g, 0, none⟩)) ∧ w'.cell? ⟨g, 0, none⟩ = some (.slice A bs.length c)) [(0, true), (1, true), (2, true), (3, true), (4, true), (5, true), (6, true), (7, true), (8, true), (9, false)] (by kernel_rfl) (by kernel_rfl) ?_
  simp only [Rg.pick, List.map_cons, List.map_nil, List.getD_cons_zero, List.getD_cons_succ]
  iterate 6 (refine Rg.ord_quiet (v := ?_) rfl (fun w' hS => ?_) ⟨c1, c2⟩ ?_; rotate_left; (obtain ⟨s1, s2⟩ := hS; go_simp; with_reducible rfl); simp only [Act.put, List.setIfInBounds_toArray, List.set_cons_succ, List.set_cons_zero])
  refine Rg.ord_quiet (v := .slice A2 (bs.length - k) (c - k)) rfl (fun w' hS => ?_) ⟨c1, c2⟩ ?_
  · have hq := Hcut.out w'
    clear hS
    go_simp
  simp only [Act.put, List.setIfInBounds_toArray, List.set_cons_succ, List.set_cons_zero]
  iterate 2 (refine Rg.ord_quiet (v := ?_) rfl (fun w' hS => ?_) ⟨c1, c2⟩ ?_; rotate_left; (obtain ⟨s1, s2⟩ := hS; go_simp; with_reducible rfl); simp only [Act.put, List.setIfInBounds_toArray, List.set_cons_succ, List.set_cons_zero])
  refine Rg.ord_loud rfl (fun K hK => ?_)
  go_simp
  have hr4 := Hr3.out.off (Ne.symm hgr) (i := 0) (.slice A2 (bs.length - k) (c - k))
  have hn4 := Hn3.out.off (Ne.symm hgn) (i := 0) (.slice A2 (bs.length - k) (c - k))
  have hg4 := Hg3.out.put 0 (.slice A2 (bs.length - k) (c - k))
  have ho4 := Ho3.out.put (g := g) (i := 0) (.inl rfl) (.slice A2 (bs.length - k) (c - k))
  obtain ⟨w4, hw4⟩ : ∃ w4, w4 = w3.setCell ⟨g, 0, none⟩ (.slice A2 (bs.length - k) (c - k)) := ⟨_, rfl⟩
  rw [← hw4] at hr4 hn4 hg4 ho4 ⊢
  have Hn4 := hide hn4
  have Hg4 := hide hg4
  have Ho4 := hide ho4
  clear hw4 c2 c3 f1
  have c1 : w4.cell? ⟨br, 0, none⟩ = some (.pointer (some ⟨g, 0, none⟩)) := hr4.cell 0
  have c3 : w4.cell? ⟨g, 1, none⟩ = some (.int .i64 (e : Int)) := hg4.cell 1
  clear hr4 hn4 hg4 ho4
  refine hK _ _ (fun hf => absurd (show Rg.sink _ 9 = true from by kernel_rfl) (by rw [hf]; decide)) ?_
  clear hK K
  refine Rg.ord_nil ?_
  go_wp2
  go_ret
  exact ⟨rfl, Hn4.out, Hg4.out, Ho4.out.drew.drew⟩
end Go.Proofs.YtcmjdepjckhpdabDoor.Wr

namespace Go.Proofs.YtcmjdepjckhpdabDoor.Wr
open Go Go.RowKit Kt

theorem text_le (bs : List UInt8) (most : Int) : (textOf bs most).2.1 ≤ bs.length := by
  unfold textOf
  split
  · simp
  · split
    · simp
    · split
      · simp
      · rename_i h1 _ h3
        have he : (numOf bs).2.2 = 0 := by omega
        have := numOf_ok bs (numOf bs).1 (numOf bs).2.1 (by rw [← he])
        simp only
        omega
theorem own_put {w : World} {B g i : Nat} {E : TypeId} {v : Value} {l : List UInt8} (h : Own w B E v l) (hg : g < B) (u : Value) : Own (w.setCell ⟨g, i, none⟩ u) B E v l := by
  refine ⟨h.1, ?_⟩
  rcases h.2 with ⟨h1, h2⟩ | ⟨b, cap, cur, hv', h1, h2, h3⟩
  · exact .inl ⟨h1, h2⟩
  · exact .inr ⟨b, cap, cur, hv', h1, (Below.heap_setCell w ⟨g, i, none⟩ u b (by simp only; omega)).trans h2, h3⟩

end Go.Proofs.YtcmjdepjckhpdabDoor.Wr

namespace Go.Proofs.YtcmjdepjckhpdabDoor.Wr
open Go Go.RowKit Kt

/-- a reader in block g: what is ahead of it, and why it failed; its bytes lie in a block from B on -/
def Rd (w : World) (B g : Nat) (bs : List UInt8) (e : Nat) : Prop :=
  ∃ A c, Row w g 106 [.slice A bs.length c, .int .i64 (e : Int)] ∧ Sl w (fun b => B ≤ b ∧ b ≠ g) A c bs ∧ B ≤ g ∧ bs.length ≤ 70368744177664
/-- the same, its bytes in a block that S tells -/
def RdP (w : World) (S : Nat → Prop) (g : Nat) (bs : List UInt8) (e : Nat) : Prop :=
  ∃ A c, Row w g 106 [.slice A bs.length c, .int .i64 (e : Int)] ∧ Sl w (fun b => S b ∧ b ≠ g) A c bs ∧ S g ∧ bs.length ≤ 70368744177664
theorem RdP.lt {w : World} {S : Nat → Prop} {g : Nat} {bs : List UInt8} {e : Nat} (h : RdP w S g bs e) : g < w.heap.size := by obtain ⟨A, c, hr, _⟩ := h; exact hr.lt
theorem RdP.of {w : World} {B g : Nat} {bs : List UInt8} {e : Nat} (h : Rd w B g bs e) : RdP w (fun b => B ≤ b) g bs e := h
theorem RdP.rd {w : World} {B g : Nat} {bs : List UInt8} {e : Nat} (h : RdP w (fun b => B ≤ b) g bs e) : Rd w B g bs e := h
theorem RdP.imp {w : World} {S T : Nat → Prop} {g : Nat} {bs : List UInt8} {e : Nat} (h : RdP w S g bs e) (hi : ∀ b, b < w.heap.size → S b → T b) : RdP w T g bs e := by
  have hlt := h.lt
  obtain ⟨A, c, hr, hs, h1, h2⟩ := h
  exact ⟨A, c, hr, hs.imp fun b hb hp => ⟨hi b hb hp.1, hp.2⟩, hi g hlt h1, h2⟩
theorem RdP.below {w w' : World} {S : Nat → Prop} {g : Nat} {bs : List UInt8} {e : Nat} (h : RdP w S g bs e) (hb : Below w.heap.size w w') : RdP w' S g bs e := by
  obtain ⟨A, c, hr, hs, h1, h2⟩ := h
  exact ⟨A, c, hr.below hb hr.lt, hs.move fun b _ hlt => hb.block b hlt, h1, h2⟩
theorem Rd.lt {w : World} {B g : Nat} {bs : List UInt8} {e : Nat} (h : Rd w B g bs e) : g < w.heap.size := by obtain ⟨A, c, hr, _⟩ := h; exact hr.lt
theorem Rd.from {w : World} {B g : Nat} {bs : List UInt8} {e : Nat} (h : Rd w B g bs e) : B ≤ g := by obtain ⟨A, c, _, _, hB, _⟩ := h; exact hB
/-- two readers are apart -/
theorem Rd.apart {w : World} {B B' g g' : Nat} {bs bs' : List UInt8} {e e' : Nat} (h : Rd w B g bs e) (h' : Rd w B' g' bs' e') : ∃ A c, Row w g 106 [.slice A bs.length c, .int .i64 (e : Int)] ∧ Sl w (fun b => B ≤ b ∧ b ≠ g ∧ b ≠ g') A c bs ∧ B ≤ g ∧ bs.length ≤ 70368744177664 := by
  obtain ⟨A, c, hr, hs, h1, h2⟩ := h
  obtain ⟨A', c', hr', _⟩ := h'
  refine ⟨A, c, hr, ⟨hs.1, fun hn => ?_⟩, h1, h2⟩
  obtain ⟨b, o, rfl, hp, hc⟩ := hs.2 hn
  refine ⟨b, o, rfl, ⟨hp.1, hp.2, fun hb => ?_⟩, hc⟩
  have := hc 0 hn
  rw [hb, hr'.cell] at this
  rcases o with _ | _ | o
  · simp at this
  · simp at this
  · simp at this
theorem Rd.only {S : Nat → Prop} {w w' : World} {B g : Nat} {bs : List UInt8} {e : Nat} (h : Rd w B g bs e) (ho : Only S w w') (hS : ∀ k, B ≤ k → k < w.heap.size → ¬ S k) : Rd w' B g bs e := by
  obtain ⟨A, c, hr, hs, h1, h2⟩ := h
  refine ⟨A, c, hr.only ho (hS g h1 hr.lt), ?_, h1, h2⟩
  exact hs.move fun b hb hlt => ho.block b hlt (hS b hb.1 hlt)
theorem Rd.other {w w' : World} {B B' g g' : Nat} {bs bs' : List UInt8} {e e' : Nat} (h : Rd w B g bs e) (h' : Rd w B' g' bs' e') (hne : g ≠ g') (ho : Only (· = g') w w') : Rd w' B g bs e := by
  obtain ⟨A, c, hr, hs, h1, h2⟩ := h.apart h'
  exact ⟨A, c, hr.only ho hne, (hs.only ho fun b hb => hb.2.2).imp fun b _ hb => ⟨hb.1, hb.2.1⟩, h1, h2⟩
theorem Rd.below {w w' : World} {B g : Nat} {bs : List UInt8} {e : Nat} (h : Rd w B g bs e) (hb : Below w.heap.size w w') : Rd w' B g bs e := h.only (Only.of_below (fun _ => False) hb) fun _ _ _ h => h
theorem Rd.drew {w : World} {B g : Nat} {bs : List UInt8} {e : Nat} (h : Rd w B g bs e) : Rd w.drew B g bs e := h

theorem Only.over {S T : Nat → Prop} {w W w1 : World} (h : Only S W w1) (hb : Below w.heap.size w W) (hi : ∀ b, b < w.heap.size → S b → T b) : Only T w w1 :=
  ⟨h.os.trans hb.os, h.tape.trans hb.tape, h.output.trans hb.output, Nat.le_trans hb.size h.size, fun k hk hn => (h.block k (Nat.lt_of_lt_of_le hk hb.size) fun hs => hn (hi k hk hs)).trans (hb.block k hk)⟩

def stepNum (bs : List UInt8) (e : Nat) : Nat × List UInt8 × Nat := if e = 0 then ((numOf bs).1, bs.drop (numOf bs).2.1, (numOf bs).2.2) else (0, bs, e)
def stepText (bs : List UInt8) (e : Nat) (most : Int) : List UInt8 × List UInt8 × Nat := if e = 0 then ((textOf bs most).1, bs.drop (textOf bs most).2.1, (textOf bs most).2.2) else ([], bs, e)
def endOf (bs : List UInt8) (e : Nat) : Nat := if e = 0 then (if 0 < bs.length then 5 else 0) else e

theorem RdP.cut {w' : World} {S : Nat → Prop} {g k e : Nat} {bs : List UInt8} {A : Option Addr} {c : Nat} (hr : Row w' g 106 [cutV A bs.length c k, .int .i64 (e : Int)]) (hs : Sl w' (fun b => S b ∧ b ≠ g) A c bs)
    (hB : S g) (hl : bs.length ≤ 70368744177664) (hk : k ≤ bs.length) : RdP w' S g (bs.drop k) e := by
  refine ⟨_, _, ?_, hs.cut hk, hB, by rw [List.length_drop]; omega⟩
  rw [List.length_drop]
  exact hr

theorem own_open {w : World} {B : Nat} {E : TypeId} {v : Value} {l : List UInt8} (h : Own w B E v l) : ∃ A c, v = .slice A l.length c ∧ Sl w (fun b => B ≤ b) A c l := by
  have hs := Is.own h
  rcases h.2 with ⟨rfl, h0⟩ | ⟨g, cap, cur, rfl, hB, hg, hnc, hcm, _⟩
  · have e : l = [] := List.eq_nil_of_length_eq_zero h0
    subst e
    exact ⟨none, 0, rfl, Sl.nil _ _ _ _⟩
  · obtain ⟨A, c, he, hs⟩ := hs
    injection he with h1 _ h3
    subst h1 h3
    exact ⟨_, _, rfl, hs.imp fun _ _ hb => hb.1⟩

theorem numOf_le (bs : List UInt8) : (numOf bs).2.1 ≤ bs.length := by
  by_cases he : (numOf bs).2.2 = 0
  · exact (numOf_ok bs (numOf bs).1 (numOf bs).2.1 (by rw [← he])).2.2.2.1
  · have := numOf_fail bs (numOf bs).1 (numOf bs).2.1 _ rfl he
    omega
theorem sizeReader : (Tryd.prog.info? 106).map (·.size) = some 2 := by kernel_rfl

set_option maxHeartbeats 1000000 in
set_option maxRecDepth 100000 in
theorem open_any (bs : List UInt8) (A : Option Addr) (c : Nat) (Pb : Nat → Prop) (w : World) (hs : Sl w Pb A c bs) (hl : bs.length ≤ 70368744177664) :
    Calls Tryd.prog 46 #[.slice A bs.length c] w fun y w' => ∃ g, y = .returned (.pointer (some ⟨g, 0, none⟩)) ∧ Rd w' w.heap.size g bs 0 ∧ Below w.heap.size w w' := by
  have Hs := hide hs
  have Hl := hide hl
  clear hs hl
  go_enter Tryd.func46, Tryd.ntmps46
  go_wp2_with (go_at_call 25; go_loud (refine (clone_any bs A c Pb _ Hs.out Hl.out).mono ?_; rintro y w1 ⟨v, rfl, hown, hb⟩; obtain ⟨A1, c1, rfl, hs1⟩ := own_open hown; have Hs1 := hide hs1; have Hb := hide hb; clear hown hb hs1))
  go_ret
  have hr := Row.fresh w1 106 #[.slice A1 bs.length c1, .int .i64 0]
  refine ⟨_, rfl, ⟨A1, c1, hr, ?_, Hb.out.size, Hl.out⟩, Hb.out.alloc Hb.out.size _⟩
  exact (Hs1.out.bound.move (w' := w1.alloc (.cells #[.slice A1 bs.length c1, .int .i64 0] 106)) fun b _ hlt => Below.heap_alloc w1 _ b hlt).imp fun b _ hb => ⟨hb.1, by omega⟩

set_option maxHeartbeats 1000000 in
set_option maxRecDepth 100000 in
theorem left_any {w : World} {B g : Nat} {bs : List UInt8} {e : Nat} (h : Rd w B g bs e) :
    Calls Tryd.prog 48 #[.pointer (some ⟨g, 0, none⟩)] w fun y w' => y = .returned (.int .i64 (bs.length : Nat)) ∧ w = w' := by
  obtain ⟨A, c, hr, _⟩ := h
  have c0 : w.cell? ⟨g, 0, none⟩ = some (.slice A bs.length c) := hr.cell 0
  clear hr
  go_enter Tryd.func48, Tryd.ntmps48
  go_wp2
  go_ret
  exact ⟨rfl, rfl⟩
set_option maxHeartbeats 1000000 in
set_option maxRecDepth 100000 in
theorem fail_any {w : World} {B g : Nat} {bs : List UInt8} {e : Nat} (h : Rd w B g bs e) :
    Calls Tryd.prog 49 #[.pointer (some ⟨g, 0, none⟩)] w fun y w' => y = .returned (.int .i64 (e : Nat)) ∧ w = w' := by
  obtain ⟨A, c, hr, _⟩ := h
  have c0 : w.cell? ⟨g, 1, none⟩ = some (.int .i64 (e : Int)) := hr.cell 1
  clear hr
  go_enter Tryd.func49, Tryd.ntmps49
  go_wp2
  go_ret
  exact ⟨rfl, rfl⟩
set_option maxHeartbeats 1000000 in
set_option maxRecDepth 100000 in
/-- whether it failed is asked once: what is to be done is done -/
theorem unless_num {w : World} {g : Nat} {a b : Value} {R : Value → World → Prop} (c1 : w.cell? ⟨g, 1, none⟩ = some (.int .i64 0)) (hf : Calls Tryd.prog 53 #[a, b] w fun y w' => ∃ v, y = .returned v ∧ R v w') :
    Calls Tryd.prog 52 #[.pointer (some ⟨g, 0, none⟩), .func (.func 53) #[] #[a, b]] w fun y w' => ∃ v, y = .returned v ∧ R v w' := by
  have Hf := hide hf
  clear hf
  go_enter Tryd.func52, Tryd.ntmps52
  go_wp2_with fail
  refine Hf.out.mono ?_
  rintro y w1 ⟨v, rfl, hR⟩
  have HR := hide hR
  clear hR
  go_wp2
  go_ret
  exact ⟨v, rfl, HR.out⟩

set_option maxHeartbeats 1000000 in
set_option maxRecDepth 100000 in
theorem readP_num {w : World} {S : Nat → Prop} {g : Nat} {bs : List UInt8} {e : Nat} (h : RdP w S g bs e) :
    Calls Tryd.prog 47 #[.pointer (some ⟨g, 0, none⟩)] w fun y w' => y = .returned (.int .u64 ((stepNum bs e).1 : Nat)) ∧ RdP w' S g (stepNum bs e).2.1 (stepNum bs e).2.2 ∧ Only (· = g) w w' := by
  have Hrd := hide h
  obtain ⟨A, c, hr, hs, hB, hl⟩ := h
  have c1a : ∀ o o', ((w.alloc o).alloc o').cell? ⟨g, 1, none⟩ = some (.int .i64 (e : Int)) := fun o o' => ((hr.alloc o).alloc o').cell 1
  have Hr := hide hr
  have Hs := hide hs
  clear hr hs
  by_cases he : e = 0
  · subst he
    obtain ⟨n, k, e, hnum⟩ : ∃ n k e, numOf bs = (n, k, e) := ⟨_, _, _, rfl⟩
    have Hk := hide (show k ≤ bs.length by have := numOf_le bs; rw [hnum] at this; exact this)
    have Hst := hide (show stepNum bs 0 = (n, bs.drop k, e) by unfold stepNum; rw [if_pos rfl, hnum])
    have Hnum := hide hnum
    clear hnum
    have Hlt := hide Hr.out.lt
    go_enter Tryd.func47, Tryd.ntmps47
    go_wp2_with fail
    have hr1 := (Row.fresh w 99 #[.pointer (some ⟨g, 0, none⟩)]).alloc (.cells #[.int .u64 0] 87)
    have hn1 := Row.new (w.alloc (.cells #[.pointer (some ⟨g, 0, none⟩)] 99)) (g := w.heap.size + 1) 87 (cs := #[.int .u64 0]) (l := [.int .u64 ((0 : Nat) : Int)]) (by simp) rfl
    have hg1 := (Hr.out.alloc (.cells #[.pointer (some ⟨g, 0, none⟩)] 99)).alloc (.cells #[.int .u64 0] 87)
    have hb1 := ((Below.refl w.heap.size w).alloc (Nat.le_refl _) (.cells #[.pointer (some ⟨g, 0, none⟩)] 99)).alloc (by simp) (.cells #[.int .u64 0] 87)
    have hs1 := Hs.out.bound.move (w' := (w.alloc (.cells #[.pointer (some ⟨g, 0, none⟩)] 99)).alloc (.cells #[.int .u64 0] 87)) fun b hb _ => hb1.block b hb.2
    refine (unless_num (R := fun _ w1 => Row w1 (w.heap.size + 1) 87 [.int .u64 (n : Int)] ∧ Row w1 g 106 [cutV A bs.length c k, .int .i64 (e : Int)] ∧ Only (fun b => b = g ∨ b = w.heap.size + 1) ((w.alloc (.cells #[.pointer (some ⟨g, 0, none⟩)] 99)).alloc (.cells #[.int .u64 0] 87)) w1) (c1a _ _) ((num_clo bs A c g w.heap.size (w.heap.size + 1) 0 n k e _ _ hr1 hn1 hg1 hs1 (fun b hb => by omega) (by omega) (by have := Hlt.out; omega) (by have := Hlt.out; omega) hl Hnum.out).mono fun y w1 hq => ⟨_, hq.1, hq.2⟩)).mono ?_
    rintro y w1 ⟨v, rfl, hn2, hg2, ho2⟩
    have Ho := hide (ho2.over (T := (· = g)) hb1 fun b hb h => by omega)
    have Hg2 := hide hg2
    have cn : w1.cell? ⟨w.heap.size + 1, 0, none⟩ = some (.int .u64 (n : Int)) := hn2.cell 0
    clear hr1 hn1 hg1 hb1 hs1 hn2 hg2 ho2
    go_wp2
    go_ret
    rw [Hst.out]
    exact ⟨rfl, RdP.cut Hg2.out (Hs.out.only Ho.out fun b hb => hb.2) hB hl Hk.out, Ho.out⟩
  · have Hst := hide (show stepNum bs e = (0, bs, e) by unfold stepNum; rw [if_neg he])
    have hb : ((e : Int) != 0) = true := by rw [bne_iff_ne]; omega
    go_enter Tryd.func47, Tryd.ntmps47
    go_wp2
    go_ret
    rw [Hst.out]
    have hb1 := ((Below.refl w.heap.size w).alloc (Nat.le_refl _) (.cells #[.pointer (some ⟨g, 0, none⟩)] 99)).alloc (by simp) (.cells #[.int .u64 0] 87)
    exact ⟨rfl, Hrd.out.below hb1, Only.of_below _ hb1⟩
theorem read_num {w : World} {B g : Nat} {bs : List UInt8} {e : Nat} (h : Rd w B g bs e) :
    Calls Tryd.prog 47 #[.pointer (some ⟨g, 0, none⟩)] w fun y w' => y = .returned (.int .u64 ((stepNum bs e).1 : Nat)) ∧ Rd w' B g (stepNum bs e).2.1 (stepNum bs e).2.2 ∧ Only (· = g) w w' := readP_num (RdP.of h)
end Go.Proofs.YtcmjdepjckhpdabDoor.Wr
namespace Go.Proofs.YtcmjdepjckhpdabDoor.Wr
open Go Go.RowKit Kt

theorem Only.drewN {S : Nat → Prop} {a b : World} (h : Only S a b) (n : Nat) : Only S a (b.drewN n) := ⟨h.os, h.tape, h.output, h.size, h.block⟩
end Go.Proofs.YtcmjdepjckhpdabDoor.Wr

namespace Go.Proofs.YtcmjdepjckhpdabDoor.Wr
open Go Go.RowKit Kt

theorem drop_getD (bs : List UInt8) (a j : Nat) : (bs.drop a).getD j 0 = bs.getD (a + j) 0 := by
  simp [List.getD_eq_getElem?_getD, List.getElem?_drop]
/-- the number that stands next, by its value's remainder -/
theorem next_same (X : List UInt8) (k n : Nat) (h : lead X = k) (hk : k < X.length) (h9 : k < 10) (hn : n = val (X.take (k + 1)) % 18446744073709551616) :
    numOf X = if form n = X.take (k + 1) then (n, k + 1, 0) else (0, 0, 3) := by
  have hlt : n < 18446744073709551616 := by rw [hn]; exact Nat.mod_lt _ (by omega)
  split
  · rename_i he
    have hl : (X.take (k + 1)).length = k + 1 := by rw [List.length_take]; omega
    have := numOf_form n (X.drop (k + 1)) hlt
    rw [he, hl, List.take_append_drop] at this
    exact this
  · rename_i he
    by_cases hx : (0 < k ∧ (X.getD k 0).toNat = 0) ∨ (k = 9 ∧ 1 < (X.getD k 0).toNat)
    · exact num_form X k h h9 hk hx
    · exfalso
      have hok := num_ok X k h h9 hk hx
      obtain ⟨h1, _, _, _, h2⟩ := numOf_ok _ _ _ hok
      rw [Nat.mod_eq_of_lt h1] at hn
      rw [hn] at he
      exact he h2
theorem val_cons (D : List UInt8) (j : Nat) (h : j < D.length) : val (D.drop j) = (D.getD j 0).toNat % 128 + 128 * val (D.drop (j + 1)) := by
  rw [List.drop_eq_getElem_cons h, val]
  simp [List.getElem?_eq_getElem h]

end Go.Proofs.YtcmjdepjckhpdabDoor.Wr
namespace Go.Proofs.YtcmjdepjckhpdabDoor.So
open Go Go.RowKit Kt Kg Wr Lw Sha Dk Dg Kf

section
variable {bs : Bs} {n t e : Nat}
theorem one_of (hst : stepNum bs 0 = (n, bs.drop t, e)) (ht : t ≤ bs.length) : (numOf bs).1 = n ∧ (numOf bs).2.1 = t ∧ (numOf bs).2.2 = e := by
  unfold stepNum at hst
  rw [if_pos rfl] at hst
  injection hst with h1 h2
  injection h2 with h2 h3
  have h4 := congrArg List.length h2
  rw [List.length_drop, List.length_drop] at h4
  have := numOf_le bs
  exact ⟨h1, by omega, h3⟩
theorem one_torn1 (h : (numOf bs).1 = n ∧ (numOf bs).2.1 = t ∧ (numOf bs).2.2 = e) (h1 : e = 2) : rdOne bs = .torn := by
  unfold rdOne
  rw [h.2.2, if_pos h1]
theorem one_bad (h : (numOf bs).1 = n ∧ (numOf bs).2.1 = t ∧ (numOf bs).2.2 = e) (h1 : e ≠ 2) (h2 : e ≠ 0) : rdOne bs = .bad e := by
  unfold rdOne
  rw [h.2.2, if_neg h1, if_pos h2]
theorem one_long (h : (numOf bs).1 = n ∧ (numOf bs).2.1 = t ∧ (numOf bs).2.2 = e) (h2 : e = 0) (h3 : 131072 < n) : rdOne bs = .bad 4 := by
  unfold rdOne
  rw [h.2.2, h.1, if_neg (by omega), if_neg (by omega), if_pos h3]
theorem one_torn2 (h : (numOf bs).1 = n ∧ (numOf bs).2.1 = t ∧ (numOf bs).2.2 = e) (h2 : e = 0) (h3 : ¬ 131072 < n) (h4 : bs.length - t < n + 4) : rdOne bs = .torn := by
  unfold rdOne
  rw [h.2.2, h.1, h.2.1, if_neg (by omega), if_neg (by omega), if_neg h3, if_pos h4]
theorem one_sum (h : (numOf bs).1 = n ∧ (numOf bs).2.1 = t ∧ (numOf bs).2.2 = e) (h2 : e = 0) (h3 : ¬ 131072 < n) (h4 : ¬ bs.length - t < n + 4) (h5 : ¬ (sha ((bs.drop t).take n)).take 4 = (bs.drop (t + n)).take 4) : rdOne bs = .bad 12 := by
  unfold rdOne
  rw [h.2.2, h.1, h.2.1, if_neg (by omega), if_neg (by omega), if_neg h3, if_neg h4, if_neg h5]
theorem one_got (h : (numOf bs).1 = n ∧ (numOf bs).2.1 = t ∧ (numOf bs).2.2 = e) (h2 : e = 0) (h3 : ¬ 131072 < n) (h4 : ¬ bs.length - t < n + 4) (h5 : (sha ((bs.drop t).take n)).take 4 = (bs.drop (t + n)).take 4) : rdOne bs = .got ((bs.drop t).take n) (t + n + 4) := by
  unfold rdOne
  rw [h.2.2, h.1, h.2.1, if_neg (by omega), if_neg (by omega), if_neg h3, if_neg h4, if_pos h5]
end
section
variable {W w w' : World} {S : Nat → Prop} {gd gs g t e : Nat} {L : List Bs} {bs : Bs}
end
end Go.Proofs.YtcmjdepjckhpdabDoor.So
namespace Go.Proofs.YtcmjdepjckhpdabDoor.So
open Go Go.RowKit Kt Kg Wr Lw Sha Dk Dg

theorem vs_low {w : World} {P : Nat → Prop} {A : Option Addr} {c : Nat} {l : List (List UInt8)} (h : Vs w P A c (texts l)) : Vs w (fun b => b < w.heap.size) A c (texts l) := by
  refine ⟨h.1, fun h0 => ?_⟩
  obtain ⟨b, o, e, _, hc⟩ := h.2 h0
  refine ⟨b, o, e, ?_, hc⟩
  exact World.block_lt_of_cell? w _ (hc 0 _ (List.getElem?_eq_getElem h0))
theorem vs_text {w w' : World} {A : Option Addr} {c : Nat} {l : List (List UInt8)} (h : Vs w (fun b => b < w.heap.size) A c (texts l)) (hb : Below w.heap.size w w') {k : Nat} (hk : k < l.length) :
    ∃ b o, A = some ⟨b, o, none⟩ ∧ w'.cell? ⟨b, o + k, none⟩ = some (.string ⟨(l.getD k []).toArray⟩) := by
  obtain ⟨b, o, rfl, hp, hc⟩ := h.2 (by rw [texts_len]; omega)
  exact ⟨b, o, rfl, (World.cell?_of_block (a := ⟨b, o + k, none⟩) (hb.block b hp)).trans (hc k _ (texts_at l k hk))⟩
theorem texts_same (l r : List (List UInt8)) (hl : l.length = r.length) (h : ∀ j, j < l.length → l.getD j [] = r.getD j []) : l = r := by
  apply List.ext_getElem hl
  intro i h1 h2
  have := h i h1
  simpa [List.getElem?_eq_getElem h1, List.getElem?_eq_getElem h2] using this
theorem eq_txt2 (x y : List UInt8) : ((ByteArray.mk x.toArray).toList == (ByteArray.mk y.toArray).toList) = decide (x = y) := by
  rw [Lib.toList_data, Lib.toList_data, Bool.eq_iff_iff, beq_iff_eq, decide_eq_true_iff]
set_option maxHeartbeats 1000000 in
set_option maxRecDepth 100000 in
theorem ids_any (l r : List (List UInt8)) (A A' : Option Addr) (c c' : Nat) (P P' : Nat → Prop) (w : World) (hs : Vs w P A c (texts l)) (hs' : Vs w P' A' c' (texts r)) (hl : l.length ≤ 9223372036854775807) :
    Calls Tryd.prog 11 #[.slice A l.length c, .slice A' r.length c'] w fun y w' => y = .returned (.bool (decide (l = r))) ∧ Below w.heap.size w w' := by
  by_cases hlen : l.length = r.length
  · have Hs := hide (vs_low hs)
    have Hs' := hide (vs_low hs')
    clear hs hs'
    have hb0 : ((l.length : Int) != (r.length : Int)) = false := by rw [bne_eq_false_iff_eq]; omega
    have Hlen := hide hlen
    obtain ⟨N, hN⟩ : ∃ N, N = l.length := ⟨_, rfl⟩
    obtain ⟨N', hN'⟩ : ∃ N', N' = r.length := ⟨_, rfl⟩
    rw [← hN, ← hN'] at hb0 ⊢
    have HN := hide hN
    have HN' := hide hN'
    have hNl : N ≤ 9223372036854775807 := by omega
    have hNN : N = N' := by omega
    have HNN := hide hNN
    clear hN hN' hl hlen hNN
    go_enter Tryd.func11, Tryd.ntmps11
    go_wp2
    go_loopw [5] (fun i wr => ∃ k : Nat, k ≤ N ∧ i = .int .i64 k ∧ (∀ j, j < k → l.getD j [] = r.getD j []) ∧ Below w.heap.size w wr) (fun i _ => N - (intOf i).toNat)
    case atStart => exact ⟨0, Nat.zero_le _, rfl, fun j h => absurd h (Nat.not_lt_zero _), Below.refl _ _⟩
    case round =>
      obtain ⟨k, hk, rfl, hall, hb⟩ := hrel
      have Hall := hide hall
      have Hb := hide hb
      clear hall hb
      by_cases hlt : k < N
      · obtain ⟨b, o, rfl, ck⟩ := vs_text Hs.out Hb.out (k := k) (by have := HN.out; omega)
        obtain ⟨b', o', rfl, ck'⟩ := vs_text Hs'.out Hb.out (k := k) (by have := HN'.out; have := HNN.out; omega)
        have hlt' : k < N' := by have := HNN.out; omega
        by_cases hx : l.getD k [] = r.getD k []
        · have Hx := hide hx
          rw [hx] at ck
          clear hx
          generalize (r.getD k []).toArray = x at *
          go_wp2
          go_quiet (fail)
          go_wp2
          refine ⟨⟨k + 1, by omega, by go_num, fun j hj => ?_, below_drewN Hb.out _⟩, by simp [intOf]; omega⟩
          rcases Nat.lt_or_ge j k with hj' | hj'
          · exact Hall.out j hj'
          · obtain rfl : j = k := by omega
            exact Hx.out
        · have hxn := eq_txt2 (l.getD k []) (r.getD k [])
          rw [decide_eq_false hx] at hxn
          have Hx := hide hx
          clear hx
          generalize (r.getD k []).toArray = x at *
          generalize (l.getD k []).toArray = y at *
          go_wp2
          go_quiet (fail)
          go_wp2
          go_ret
          refine ⟨?_, below_drewN Hb.out _⟩
          have hd : decide (l = r) = false := decide_eq_false fun h => Hx.out (by rw [h])
          rw [hd]; rfl
      · obtain rfl : k = N := by omega
        go_wp2
        go_ret
        refine ⟨?_, Hb.out⟩
        have hd : decide (l = r) = true := decide_eq_true (texts_same l r Hlen.out fun j hj => Hall.out j (by have := HN.out; omega))
        rw [hd]; rfl
  · have hb0 : ((l.length : Int) != (r.length : Int)) = true := by rw [bne_iff_ne]; omega
    have Hd := hide (show decide (l = r) = false from decide_eq_false fun h => hlen (by rw [h]))
    clear hs hs' hlen
    go_enter Tryd.func11, Tryd.ntmps11
    go_wp2
    go_ret
    exact ⟨by rw [Hd.out]; rfl, Below.refl _ _⟩

abbrev pt (g : Nat) : Value := .pointer (some ⟨g, 0, none⟩)
/-- what a store does, in the blocks it is made of; behind the world w0, that is ahead of the law -/
structure Ct (w0 : World) (In : World → (Nat → Prop) → Nat → Nat → List Bs → Prop) : Prop where
  lt : ∀ {w : World} {S : Nat → Prop} {gs gd : Nat} {L : List Bs}, In w S gs gd L → ∀ k, S k → k < w.heap.size
  move : ∀ {w w' : World} {S : Nat → Prop} {gs gd : Nat} {L : List Bs}, In w S gs gd L → (∀ b, S b → w'.heap[b]? = w.heap[b]?) → w.heap.size ≤ w'.heap.size → In w' S gs gd L
  many : ∀ {w : World} {S : Nat → Prop} {gs gd : Nat} {L : List Bs}, Below w0.heap.size w0 w → In w S gs gd L → L.length ≤ 1000 →
    Calls Tryd.prog 16 #[pt gs] w fun y w' => y = .returned (.int .i64 (L.length : Int)) ∧ Below w.heap.size w w'
  has : ∀ {w : World} {S : Nat → Prop} {gs gd : Nat} {L : List Bs} (id : Bs), Below w0.heap.size w0 w → In w S gs gd L → L.length ≤ 1000 →
    Calls Tryd.prog 17 #[pt gs, .string ⟨id.toArray⟩] w fun y w' => y = .returned (.bool (decide (id ∈ L.map sha))) ∧ Below w.heap.size w w'
  get : ∀ {w : World} {S : Nat → Prop} {gs gd : Nat} {L : List Bs} (id : Bs), Below w0.heap.size w0 w → In w S gs gd L → L.length ≤ 1000 →
    Calls Tryd.prog 14 #[pt gs, .string ⟨id.toArray⟩] w fun y w' => ∃ v, y = .returned (.tuple #[v, .bool (got L id).isSome]) ∧ Own w' w.heap.size tU8 v ((got L id).getD []) ∧ Below w.heap.size w w'
  ids : ∀ {w : World} {S : Nat → Prop} {gs gd : Nat} {L : List Bs}, Below w0.heap.size w0 w → In w S gs gd L → L.length ≤ 1000 →
    Calls Tryd.prog 12 #[pt gs] w fun y w' => ∃ v, y = .returned v ∧ OwT w' w.heap.size tId v (L.map sha) ∧ Below w.heap.size w w'
  put : ∀ {w : World} {S Sd : Nat → Prop} {gs gd : Nat} {L : List Bs} {s : Dk.St} (b : Bs) (A : Option Addr) (c : Nat) (Pb : Nat → Prop), Below w0.heap.size w0 w → In w S gs gd L → DkIn w Sd gd s → s.fit → (∀ k, S k → ¬ Sd k) → (∀ k, S k ∨ Sd k → w0.heap.size ≤ k) →
    Sl w Pb A c b → (∀ k, Pb k → ¬ S k ∧ ¬ Sd k) → b.length ≤ 1000 → L.length ≤ 1000 →
    Calls Tryd.prog 8 #[pt gs, .slice A b.length c] w fun y w' => y = .returned (.tuple #[.string ⟨(put ⟨s, L⟩ b).2.1.toArray⟩, .int .i64 ((put ⟨s, L⟩ b).2.2 : Int)]) ∧
      ∃ S' Sd', In w' S' gs gd (put ⟨s, L⟩ b).1.L ∧ DkIn w' Sd' gd (put ⟨s, L⟩ b).1.s ∧ Oth (fun k => S k ∨ Sd k) w w' ∧ (∀ k, S' k ∨ Sd' k → S k ∨ Sd k ∨ w.heap.size ≤ k) ∧ ∀ k, S' k → ¬ Sd' k
  opened : ∀ {w : World} {Sd : Nat → Prop} {gd : Nat} {s : Dk.St}, Below w0.heap.size w0 w → DkIn w Sd gd s → s.fit → s.dead = false → (∀ k, Sd k → w0.heap.size ≤ k) → s.k.length ≤ 4000 →
    Calls Tryd.prog 7 #[pt gd] w fun y w' =>
      ((op [] s.k 0).1 ≠ 0 ∧ y = .returned (.tuple #[.pointer none, .int .i64 ((op [] s.k 0).1 : Int)]) ∧ ∃ Sd', DkIn w' Sd' gd s ∧ Oth Sd w w' ∧ ∀ k, Sd' k → Sd k ∨ w.heap.size ≤ k) ∨
      ((op [] s.k 0).1 = 0 ∧ ∃ gs S Sd', y = .returned (.tuple #[pt gs, .int .i64 0]) ∧ In w' S gs gd (op [] s.k 0).2.1 ∧ (∀ k, S k → w.heap.size ≤ k) ∧
        DkIn w' Sd' gd ⟨s.k.take (op [] s.k 0).2.2, s.room, s.fuse, s.dead⟩ ∧ Oth Sd w w' ∧ (∀ k, Sd' k → Sd k ∨ w.heap.size ≤ k) ∧ ∀ k, S k → ¬ Sd' k)
theorem Ct.below {w0 w w' : World} {In : World → (Nat → Prop) → Nat → Nat → List Bs → Prop} {S : Nat → Prop} {gs gd : Nat} {L : List Bs} (C : Ct w0 In) (h : In w S gs gd L) (hb : Below w.heap.size w w') : In w' S gs gd L :=
  C.move h (fun b hS => hb.block b (C.lt h b hS)) hb.size
theorem Ct.oth {w0 w w' : World} {In : World → (Nat → Prop) → Nat → Nat → List Bs → Prop} {S T : Nat → Prop} {gs gd : Nat} {L : List Bs} (C : Ct w0 In) (h : In w S gs gd L) (ho : Oth T w w') (hd : ∀ k, S k → ¬ T k) : In w' S gs gd L :=
  C.move h (fun b hS => ho.block b (C.lt h b hS) (hd b hS)) ho.size
end Go.Proofs.YtcmjdepjckhpdabDoor.So
namespace Go.Proofs.YtcmjdepjckhpdabDoor.So
open Go Go.RowKit Kt Kg Wr Lw Sha Dk Dg

theorem vs_keep {w w' : World} {A : Option Addr} {c : Nat} {vs : List Value} (h : Vs w (fun b => b < w.heap.size) A c vs) (hb : Below w.heap.size w w') : Vs w' (fun b => b < w.heap.size) A c vs :=
  ⟨h.1, fun h0 => by
    obtain ⟨b, o, e, hp, hc⟩ := h.2 h0
    exact ⟨b, o, e, hp, fun j v hj => (World.cell?_of_block (a := ⟨b, o + j, none⟩) (hb.block b hp)).trans (hc j v hj)⟩⟩
end Go.Proofs.YtcmjdepjckhpdabDoor.So
namespace Go.Proofs.YtcmjdepjckhpdabDoor.So
open Go Go.RowKit Kt Kg Wr Lw Sha Dk Dg

theorem Ct.fresh {w0 w : World} {In : World → (Nat → Prop) → Nat → Nat → List Bs → Prop} (C : Ct w0 In) {Sd : Nat → Prop} {gd n : Nat} (hlow : Below w0.heap.size w0 w) (hd : DkIn w Sd gd (new n)) (hn : n ≤ 16777216) (hup : ∀ k, Sd k → w0.heap.size ≤ k) :
    Calls Tryd.prog 7 #[pt gd] w fun y w' => ∃ gs S Sd', y = .returned (.tuple #[pt gs, .int .i64 0]) ∧ In w' S gs gd [] ∧ DkIn w' Sd' gd (new n) ∧ Below w0.heap.size w0 w' ∧
      (∀ k, S k ∨ Sd' k → w0.heap.size ≤ k) ∧ ∀ k, S k → ¬ Sd' k := by
  refine (C.opened hlow hd (new_fit hn) rfl hup (Nat.zero_le _)).mono ?_
  rintro y w' (⟨h, _⟩ | ⟨_, gs, S, Sd', rfl, h1, h2, h3, h4, h5, h6⟩)
  · exact absurd rfl h
  · exact ⟨gs, S, Sd', rfl, h1, h3, oth_low h4 hlow hup, fun k hk => hk.elim (fun x => Nat.le_trans hlow.size (h2 k x)) fun x => (h5 k x).elim (hup k) fun x => Nat.le_trans hlow.size x, h6⟩
theorem sum_abc : (sha [97, 98, 99]).take 4 = [186, 120, 22, 191] := by kernel_rfl
theorem rec_abc : record [97, 98, 99] = [3, 97, 98, 99, 186, 120, 22, 191] := by
  unfold record
  rw [sum_abc, show form ([97, 98, 99] : Bs).length = [3] from by rw [show ([97, 98, 99] : Bs).length = 3 from rfl, form]; rfl]; rfl
theorem wake_abc : put ⟨new 100, []⟩ [97, 98, 99] = (⟨⟨[3, 97, 98, 99, 186, 120, 22, 191], 100, -1, false⟩, [[97, 98, 99]]⟩, sha [97, 98, 99], 0) := by
  unfold put
  rw [if_neg (by decide), if_neg (by simp), rec_abc]
  rfl
set_option maxHeartbeats 4000000 in
set_option maxRecDepth 100000 in
theorem swake_any {In : World → (Nat → Prop) → Nat → Nat → List Bs → Prop} (w : World) (C : Ct w In) (hT : TabR w) : Calls Tryd.prog 4 #[] w fun y w' => y = .returned (.bool true) ∧ Below w.heap.size w w' := by
  have HC := hide C
  have HT := hide hT
  have H1 := hide (new_yes 100 (by decide) w)
  clear C hT
  go_enter Tryd.func4, Tryd.ntmps4
  go_wp2_with fail
  refine H1.out.mono ?_
  rintro y w1 ⟨g, rfl, hD, hg, hb⟩
  have HF := hide (HC.out.fresh hb hD (by decide) (fun k hk => by rw [hk, hg]; exact Nat.le_refl _))
  clear H1 hD hg hb
  go_wp2_with fail
  refine HF.out.mono ?_
  rintro y w2 ⟨gs, S, Sd, rfl, hI, hD, hb, hup, hap⟩
  have hs1 := lit_sl w2 [97, 98, 99] #[.int .u8 97, .int .u8 98, .int .u8 99] (3, 4) rfl
  have hcv := Lib.run_convert_bytes_const (P := Tryd.prog) w2 38 tU8 #[.int .u8 97, .int .u8 98, .int .u8 99] 3 3 Tryd.underlying38 Tryd.underlying5
  simp only [List.size_toArray, List.length_cons, List.length_nil, Nat.reduceAdd] at hcv
  have hb1 := (Below.refl w2.heap.size w2).alloc (Nat.le_refl _) (.cells #[.int .u8 97, .int .u8 98, .int .u8 99] tU8 (3, 4))
  have hb2 := hb.trans (hb1.mono hb.size)
  have P1 := HC.out.put [97, 98, 99] _ _ _ hb2 (HC.out.below hI hb1) (hD.below hb1) (new_fit (by decide)) hap hup hs1 (fun k hk => ⟨fun h => by have := HC.out.lt hI k h; omega, fun h => by have := hD.lt k h; omega⟩) (by decide) (by decide)
  rw [wake_abc] at P1
  have HP1 := hide P1
  have HB2 := hide hb2
  have HUp := hide hup
  clear P1 hs1 hI hD hb hb1 hb2 hup hap HF
  obtain ⟨I, hI⟩ : ∃ I, I = sha [97, 98, 99] := ⟨_, rfl⟩
  rw [← hI] at HP1
  go_wp2_with fail
  refine HP1.out.mono ?_
  clear hcv
  rintro y w3 ⟨rfl, S', Sd', hI3, hD3, ho3, hup3, hap3⟩
  have HB3 := hide (oth_low ho3 HB2.out HUp.out)
  have HI3 := hide hI3
  have HD3 := hide hD3
  have hgot : got [[97, 98, 99]] I = some [97, 98, 99] := by rw [hI]; exact got_is (L := [[97, 98, 99]]) (i := 0) (by simp) rfl
  have HGet := hide (HC.out.get I HB3.out hI3 (by decide))
  rw [hgot] at HGet
  simp only [Option.isSome_some, Option.getD_some] at HGet
  have HI := hide hI
  clear hI3 hD3 ho3 hup3 hap3 hI hgot HP1 HB2
  go_wp2_with fail
  refine HGet.out.mono ?_
  rintro y w4 ⟨v, rfl, hown, hb4⟩
  have HB4 := hide (HB3.out.trans (hb4.mono HB3.out.size))
  have HI4 := hide (HC.out.below HI3.out hb4)
  have HD4 := hide (HD3.out.below hb4)
  obtain ⟨A4, k4, rfl, hs4⟩ := hown.sl
  have HS4 := hide (hs4.bound)
  have hcv := Lib.run_convert_bytes_const (P := Tryd.prog) w4 38 tU8 #[.int .u8 97, .int .u8 98, .int .u8 99] 3 3 Tryd.underlying38 Tryd.underlying5
  simp only [List.size_toArray, List.length_cons, List.length_nil, Nat.reduceAdd] at hcv
  have hs5 := lit_sl w4 [97, 98, 99] #[.int .u8 97, .int .u8 98, .int .u8 99] (3, 4) rfl
  have hb5 := (Below.refl w4.heap.size w4).alloc (Nat.le_refl _) (.cells #[.int .u8 97, .int .u8 98, .int .u8 99] tU8 (3, 4))
  have HB5 := hide (HB4.out.trans (hb5.mono HB4.out.size))
  have HOf := hide (rof_any [97, 98, 99] _ _ _ _ hs5 (by decide) (tabR_keep HT.out HB5.out))
  rw [← HI.out] at HOf
  have HH5 := hide hb5
  clear hown hb4 hs4 hs5 hb5 HGet HI3 HD3 HB3
  go_wp2_with fail
  refine HOf.out.mono ?_
  clear hcv
  rintro y w6 ⟨rfl, hb6⟩
  have HB6 := hide (HB5.out.trans (hb6.mono HB5.out.size))
  have HH6 := hide (HH5.out.trans (hb6.mono HH5.out.size))
  have HI6 := hide (HC.out.below (HC.out.below HI4.out HH5.out) hb6)
  have HD6 := hide ((HD4.out.below HH5.out).below hb6)
  have HS6 := hide (HS4.out.move (w' := w6) fun k hk _ => HH6.out.block k hk.2)
  have hct := sl_text HS6.out (show 3 = ([97, 98, 99] : Bs).length from rfl)
  have hqq : (I == I) = true := by simp
  have HBy := hide (bytes_call HD6.out (show Dk.St.fit ⟨[3, 97, 98, 99, 186, 120, 22, 191], 100, -1, false⟩ from ⟨by decide, by decide, by decide, by decide⟩))
  clear hb6 HOf HB5 HH5 HI4 HD4 HS4 HB4
  go_wp2_with fail
  refine HBy.out.mono ?_
  rintro y w7 ⟨v7, rfl, hown, hb7⟩
  obtain ⟨A7, k7, rfl, hs7⟩ := hown.sl
  have HB7 := hide (HB6.out.trans (hb7.mono HB6.out.size))
  have HI7 := hide (HC.out.below HI6.out hb7)
  obtain ⟨w8, hw8⟩ : ∃ z, z = w7.alloc (.cells #[.int .u8 3, .int .u8 97, .int .u8 98, .int .u8 99, .int .u8 186, .int .u8 120, .int .u8 22, .int .u8 191] tU8) := ⟨_, rfl⟩
  obtain ⟨q8, hq8⟩ : ∃ z, z = w7.heap.size := ⟨_, rfl⟩
  have hb8 : Below w7.heap.size w7 w8 := by rw [hw8]; exact (Below.refl _ w7).alloc (Nat.le_refl _) _
  have HB8 := hide (HB7.out.trans (hb8.mono HB7.out.size))
  have HI8 := hide (HC.out.below HI7.out hb8)
  have HCmp := hide (bytes_two [3, 97, 98, 99, 186, 120, 22, 191] [3, 97, 98, 99, 186, 120, 22, 191] A7 (some ⟨q8, 0, none⟩) 8 8 k7 8 _ _ w8 (hs7.bound.move (w' := w8) fun k hk _ => hb8.block k hk.2)
    (show Sl w8 (fun k => k = q8) _ _ _ from by
      rw [hw8, hq8]
      exact lit_sl w7 [3, 97, 98, 99, 186, 120, 22, 191] _ _ rfl) rfl rfl (by decide))
  have HW8 := hide hw8
  have HQ8 := hide hq8
  clear hown hb7 hs7 hb8 hw8 hq8 HBy HI6 HD6 HS6 HH6 HB6 hct hqq
  go_wp2_with fail
  rw [← HW8.out, ← HQ8.out]
  refine HCmp.out.mono ?_
  rintro y w9 ⟨rfl, hb9⟩
  simp only [decide_true]
  have HB9 := hide (HB8.out.trans (hb9.mono HB8.out.size))
  have HI9 := hide (HC.out.below HI8.out hb9)
  clear hb9 HCmp HW8 HQ8 HB8 HI8
  go_wp2_with fail
  refine (HC.out.many HB9.out HI9.out (by decide)).mono ?_
  rintro y wa ⟨rfl, hba⟩
  have HBa := hide (HB9.out.trans (hba.mono HB9.out.size))
  have HIa := hide (HC.out.below HI9.out hba)
  have HMem := hide (show decide (I ∈ ([[97, 98, 99]] : List Bs).map sha) = true from decide_eq_true (by rw [HI.out]; simp))
  clear hba HB9 HI9
  go_wp2_with fail
  refine (HC.out.has I HBa.out HIa.out (by decide)).mono ?_
  rintro y wb ⟨rfl, hbb⟩
  rw [HMem.out]
  have HBb := hide (HBa.out.trans (hbb.mono HBa.out.size))
  clear hbb HBa HIa HMem
  go_wp2
  go_ret
  exact ⟨rfl, HBb.out⟩
end Go.Proofs.YtcmjdepjckhpdabDoor.So
namespace Go.Proofs.YtcmjdepjckhpdabDoor.So
open Go Go.RowKit Kt Kg Wr Lw Sha Dk Dg

theorem rel14 {s : Dk.St} {r : Rt} {L : List Bs} {b : Bs} (h : Rel s r) (hf : s.fit) : (put ⟨s, L⟩ b).2 = (rput14 r L b).2 ∧ Rel (put ⟨s, L⟩ b).1.s (rput14 r L b).1.1 ∧ (put ⟨s, L⟩ b).1.L = (rput14 r L b).1.2 := by
  obtain ⟨h1, h2⟩ := h.put hf (record b)
  unfold So.put rput14
  simp only []
  rw [h2]
  by_cases hl : 131072 < b.length
  · simp only [if_pos hl]
    exact ⟨trivial, h, trivial⟩
  · simp only [if_neg hl]
    by_cases hm : sha b ∈ L.map sha
    · simp only [if_pos hm]
      exact ⟨trivial, h, trivial⟩
    · simp only [if_neg hm]
      by_cases he : (rput r (record b)).2 = 0
      · simp only [if_pos he]
        exact ⟨trivial, h1, trivial⟩
      · simp only [if_neg he]
        exact ⟨trivial, h1, trivial⟩
end Go.Proofs.YtcmjdepjckhpdabDoor.So
namespace Go.Proofs.YtcmjdepjckhpdabDoor.So
open Go Go.RowKit Kt Kg Wr Lw Sha Dk Dg

theorem Ct.fresh2 {w0 w : World} {In : World → (Nat → Prop) → Nat → Nat → List Bs → Prop} (C : Ct w0 In) {Sd : Nat → Prop} {gd n : Nat} (hlow : Below w0.heap.size w0 w) (hd : DkIn w Sd gd (new n)) (hn : n ≤ 16777216) (hup : ∀ k, Sd k → w0.heap.size ≤ k) :
    Calls Tryd.prog 7 #[pt gd] w fun y w' => ∃ gs S Sd', y = .returned (.tuple #[pt gs, .int .i64 0]) ∧ In w' S gs gd [] ∧ DkIn w' Sd' gd (new n) ∧ Below w0.heap.size w0 w' ∧
      (∀ k, S k ∨ Sd' k → w0.heap.size ≤ k) ∧ (∀ k, S k → w.heap.size ≤ k) ∧ (∀ k, Sd' k → Sd k ∨ w.heap.size ≤ k) ∧ Oth Sd w w' ∧ ∀ k, S k → ¬ Sd' k := by
  refine (C.opened hlow hd (new_fit hn) rfl hup (Nat.zero_le _)).mono ?_
  rintro y w' (⟨h, _⟩ | ⟨_, gs, S, Sd', rfl, h1, h2, h3, h4, h5, h6⟩)
  · exact absurd rfl h
  · exact ⟨gs, S, Sd', rfl, h1, h3, oth_low h4 hlow hup, fun k hk => hk.elim (fun x => Nat.le_trans hlow.size (h2 k x)) fun x => (h5 k x).elim (hup k) fun x => Nat.le_trans hlow.size x, h2, h5, h4, h6⟩
/-- the program's store and its disk, in blocks of its own from w0 on -/
def PS (In : World → (Nat → Prop) → Nat → Nat → List Bs → Prop) (w0 w : World) (U : Nat → Prop) (gs g : Nat) (x : Ss) : Prop :=
  ∃ S Sd, In w S gs g x.L ∧ DkIn w Sd g x.s ∧ (∀ k, S k ∨ Sd k → U k ∧ w0.heap.size ≤ k) ∧ ∀ k, S k → ¬ Sd k
section
variable {In : World → (Nat → Prop) → Nat → Nat → List Bs → Prop} {w0 w w' : World} {U V : Nat → Prop} {gs g : Nat} {x : Ss} {r : Rt} {L : List Bs}
theorem PS.oth (C : Ct w0 In) (h : PS In w0 w U gs g x) (ho : Oth V w w') (hd : ∀ k, k < w.heap.size → U k → ¬ V k) : PS In w0 w' U gs g x := by
  obtain ⟨S, Sd, h1, h2, h3, h4⟩ := h
  exact ⟨S, Sd, C.oth h1 ho fun k hk => hd k (C.lt h1 k hk) (h3 k (.inl hk)).1, h2.oth ho fun k hk => hd k (h2.lt k hk) (h3 k (.inr hk)).1, h3, h4⟩
theorem PS.below (C : Ct w0 In) (h : PS In w0 w U gs g x) (hb : Below w.heap.size w w') : PS In w0 w' U gs g x := h.oth (V := fun _ => False) C (Oth.of_below _ hb) fun _ _ _ h => h
theorem PS.imp (h : PS In w0 w U gs g x) (C : Ct w0 In) (hi : ∀ k, k < w.heap.size → U k → V k) : PS In w0 w V gs g x := by
  obtain ⟨S, Sd, h1, h2, h3, h4⟩ := h
  exact ⟨S, Sd, h1, h2, fun k hk => ⟨hi k (hk.elim (C.lt h1 k) (h2.lt k)) (h3 k hk).1, (h3 k hk).2⟩, h4⟩
theorem PS.put (C : Ct w0 In) (h : PS In w0 w U gs g x) (hlow : Below w0.heap.size w0 w) (hf : x.s.fit) (b : Bs) (A : Option Addr) (c : Nat) (Pb : Nat → Prop) (hs : Sl w Pb A c b) (hP : ∀ k, Pb k → ¬ U k) (hb : b.length ≤ 1000) (hl : x.L.length ≤ 1000) :
    Calls Tryd.prog 8 #[pt gs, .slice A b.length c] w fun y w' => y = .returned (.tuple #[.string ⟨(So.put x b).2.1.toArray⟩, .int .i64 ((So.put x b).2.2 : Int)]) ∧
      PS In w0 w' (fun k => U k ∨ w.heap.size ≤ k) gs g (So.put x b).1 ∧ Oth U w w' ∧ Below w0.heap.size w0 w' := by
  obtain ⟨S, Sd, h1, h2, h3, h4⟩ := h
  refine (C.put b A c Pb hlow h1 h2 hf h4 (fun k hk => (h3 k hk).2) hs (fun k hk => ⟨fun z => hP k hk (h3 k (.inl z)).1, fun z => hP k hk (h3 k (.inr z)).1⟩) hb hl).mono ?_
  rintro y w' ⟨rfl, S', Sd', q1, q2, q3, q4, q5⟩
  have q6 : ∀ k, S' k ∨ Sd' k → (U k ∨ w.heap.size ≤ k) ∧ w0.heap.size ≤ k := fun k hk => by
    rcases q4 k hk with z | z | z
    · exact ⟨.inl (h3 k (.inl z)).1, (h3 k (.inl z)).2⟩
    · exact ⟨.inl (h3 k (.inr z)).1, (h3 k (.inr z)).2⟩
    · exact ⟨.inr z, Nat.le_trans hlow.size z⟩
  exact ⟨rfl, ⟨S', Sd', q1, q2, q6, q5⟩, q3.mono fun k _ hk => (h3 k hk).1, oth_low q3 hlow fun k hk => (h3 k hk).2⟩
end
end Go.Proofs.YtcmjdepjckhpdabDoor.So
