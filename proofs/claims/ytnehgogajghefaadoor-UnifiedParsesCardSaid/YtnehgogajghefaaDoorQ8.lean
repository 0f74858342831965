/-
  Rows of parts; hunk.parts.
-/
import Derived.Test.YtnehgogajghefaaDoorQ7
import Derived.Test.YtnehgogajghefaaDoorQ5
namespace Go.Proofs.YtnehgogajghefaaDoor.Hu
open Go Go.RowKit Kt Lw Li Df

/-- these cells are a part: three slices of texts, signs and all -/
def PtC (w : World) (P : Nat → Prop) (p : Pt) (cs : List Value) : Prop :=
  ∃ A1 c1 A2 c2 A3 c3, cs = [.slice A1 p.st.length c1, .slice A2 p.gn.length c2, .slice A3 p.cm.length c3] ∧ Vs w P A1 c1 (texts (mk 32 p.st)) ∧ Vs w P A2 c2 (texts (mk 45 p.gn)) ∧ Vs w P A3 c3 (texts (mk 43 p.cm))
/-- '.slice A n c' reads as these parts -/
def Ps (w0 : World) (P : Nat → Prop) (w : World) (B : Nat) (A : Option Addr) (c : Nat) (ps : List Pt) : Prop :=
  ps.length ≤ c ∧ (0 < ps.length → ∃ b o, A = some ⟨b, o, none⟩ ∧ (B ≤ b ∧ b < w.heap.size) ∧ ∀ j p, ps[j]? = some p → ∃ cs, w.rangeAt b (o + 3 * j) cs ∧ PtC w0 P p cs)
/-- the part number k, in a world behind -/
theorem Ps.at {w0 w w' : World} {P : Nat → Prop} {A : Option Addr} {c : Nat} {ps : List Pt} {B : Nat} (h : Ps w0 P w B A c ps) (hb : ∀ b, B ≤ b → b < w.heap.size → w'.heap[b]? = w.heap[b]?) {k : Nat} (hk : k < ps.length) :
    ∃ b o p A1 c1 A2 c2 A3 c3, A = some ⟨b, o, none⟩ ∧ ps[k]? = some p ∧ (w'.cell? ⟨b, o + k * 3, none⟩ = some (.slice A1 p.st.length c1) ∧ w'.cell? ⟨b, o + k * 3 + 1, none⟩ = some (.slice A2 p.gn.length c2) ∧ w'.cell? ⟨b, o + k * 3 + 2, none⟩ = some (.slice A3 p.cm.length c3)) ∧
      Vs w0 P A1 c1 (texts (mk 32 p.st)) ∧ Vs w0 P A2 c2 (texts (mk 45 p.gn)) ∧ Vs w0 P A3 c3 (texts (mk 43 p.cm)) := by
  obtain ⟨b, o, rfl, ⟨hB, hlt⟩, he⟩ := h.2 (by omega)
  obtain ⟨cs, h1, A1, c1, A2, c2, A3, c3, rfl, v1, v2, v3⟩ := he k _ (List.getElem?_eq_getElem hk)
  rw [Nat.mul_comm] at h1
  have h3 : ∀ i v, ([.slice A1 (ps[k]).st.length c1, .slice A2 (ps[k]).gn.length c2, .slice A3 (ps[k]).cm.length c3] : List Value)[i]? = some v → w'.cell? ⟨b, o + k * 3 + i, none⟩ = some v := fun i v hi => (World.cell?_of_block (a := ⟨b, o + k * 3 + i, none⟩) (hb b hB hlt)).trans (h1 i v hi)
  exact ⟨b, o, _, A1, c1, A2, c2, A3, c3, rfl, List.getElem?_eq_getElem hk, ⟨h3 0 _ rfl, h3 1 _ rfl, h3 2 _ rfl⟩, v1, v2, v3⟩
theorem Good.pos {p : Pt} {r : List Pt} (h : Good (p :: r)) : 0 < p.st.length + (p.gn.length + p.cm.length) := by
  rcases h.1 with h | h | h
  · have := List.length_pos_iff.2 h; omega
  · have := List.length_pos_iff.2 h; omega
  · have := List.length_pos_iff.2 h; omega
end Go.Proofs.YtnehgogajghefaaDoor.Hu

namespace Go.Proofs.YtnehgogajghefaaDoor.Hu
open Go Go.RowKit Kt Lw Li Df

theorem owt_off {w : World} {B : Nat} {v : Value} {l : Ls} (h : OwT w B tS v l) {g i : Nat} (hg : ∀ b, v.ownBlock = some b → b ≠ g) (u : Value) : OwT (w.setCell ⟨g, i, none⟩ u) B tS v l := by
  refine ⟨h.1, ?_⟩
  rcases h.2 with ⟨h1, h2⟩ | ⟨g', cap, cur, hv', h1, h2, h3⟩
  · exact .inl ⟨h1, h2⟩
  · exact .inr ⟨g', cap, cur, hv', h1, (Below.heap_setCell w ⟨g, i, none⟩ u g' (hg g' (by rw [hv']; rfl))).trans h2, h3⟩
theorem row_ne {w : World} {B g : Nat} {t : TypeId} {cs : List Value} {v : Value} {l : Ls} (hrow : Row w g t cs) (ht : t ≠ tS) (h : OwT w B tS v l) : ∀ b, v.ownBlock = some b → b ≠ g := by
  intro b hb e
  subst e
  rcases h.2 with ⟨rfl, _⟩ | ⟨g', cap, cur, rfl, _, hg', _⟩
  · cases hb
  · simp only [Value.ownBlock, Option.some.injEq] at hb
    subst hb
    unfold Row at hrow
    rw [hg'] at hrow
    simp only [Option.some.injEq, Obj.cells.injEq] at hrow
    exact ht hrow.2.1.symm
theorem owt_base {w : World} {B B' : Nat} {v : Value} {l : Ls} (h : OwT w B tS v l) (hb : B' ≤ B) : OwT w B' tS v l :=
  ⟨h.1, h.2.imp id fun ⟨g, cap, cur, hv', h1, h2⟩ => ⟨g, cap, cur, hv', Nat.le_trans hb h1, h2⟩⟩
theorem owt_form {w : World} {B : Nat} {v : Value} {l : Ls} (h : OwT w B tS v l) : ∃ A n c, v = .slice A n c := by
  obtain ⟨A, c, h, _⟩ := h.vs
  exact ⟨A, _, c, h⟩
theorem tH_ne : tH ≠ tS := by decide
/-- in the world wr the block g is a hunk whose lines, L, are a row of the call's own; w: the world at the call's start, wp: where the row was begun -/
structure HS (w wp wr : World) (g : Nat) (x0 x1 x2 x3 v : Value) (L : Ls) : Prop where
  row : Row wr g tH [x0, x1, x2, x3, v]
  own : OwT wr wp.heap.size tS v L
  far : wp.grownBy wr (some g)
  low : Below w.heap.size w wr
  lt : w.heap.size ≤ g ∧ g < wp.heap.size
section
variable {w wp wr w1 : World} {g : Nat} {x0 x1 x2 x3 v : Value} {L : Ls}
theorem HS.more (h : HS w wp wr g x0 x1 x2 x3 v L) (hb : Below wr.heap.size wr w1) : HS w wp w1 g x0 x1 x2 x3 v L :=
  ⟨h.row.below hb h.row.lt, h.own.kept hb, grown_more h.far ⟨hb.os, hb.tape, hb.output, hb.size, fun k hk _ => hb.block k hk⟩ (.inl rfl), h.low.trans (hb.mono h.low.size), h.lt⟩
theorem HS.drew (h : HS w wp wr g x0 x1 x2 x3 v L) : HS w wp wr.drew g x0 x1 x2 x3 v L := h.more ((Below.refl _ wr).drew)
theorem HS.ne (h : HS w wp wr g x0 x1 x2 x3 v L) : ∀ b, v.ownBlock = some b → b ≠ g := row_ne h.row tH_ne h.own
theorem HS.cells (h : HS w wp wr g x0 x1 x2 x3 v L) : wr.cell? ⟨g, 0, none⟩ = some x0 ∧ wr.cell? ⟨g, 1, none⟩ = some x1 ∧ wr.cell? ⟨g, 2, none⟩ = some x2 ∧ wr.cell? ⟨g, 3, none⟩ = some x3 ∧ wr.cell? ⟨g, 4, none⟩ = some v ∧ wr.frozen? ⟨g, 4, none⟩ = false :=
  ⟨h.row.cell 0, h.row.cell 1, h.row.cell 2, h.row.cell 3, h.row.cell 4, h.row.free 4⟩
theorem HS.grown (h : HS w wp wr g x0 x1 x2 x3 v L) (hg : wr.grownBy w1 v.ownBlock) : Row w1 g tH [x0, x1, x2, x3, v] :=
  h.row.grown hg (fun e => h.ne g e.symm rfl)
theorem HS.step (h : HS w wp wr g x0 x1 x2 x3 v L) {v1 : Value} {L1 : Ls} (ho : OwT w1 wp.heap.size tS v1 L1) (hg : wr.grownBy w1 v.ownBlock) : HS w wp (w1.setCell ⟨g, 4, none⟩ v1) g x0 x1 x2 x3 v1 L1 := by
  have hr1 := h.grown hg
  have hfar : wp.grownBy w1 (some g) := by
    refine ⟨hg.os.trans h.far.os, hg.tape.trans h.far.tape, hg.output.trans h.far.output, Nat.le_trans h.far.size hg.size, fun k hk hne => (hg.block k (Nat.lt_of_lt_of_le hk h.far.size) ?_).trans (h.far.block k hk hne)⟩
    intro e
    have := (World.ownsRow.lt h.own k e.symm).1
    omega
  have hlow : Below w.heap.size w w1 := h.low.grown hg h.low.size fun k hk => by
    have := (World.ownsRow.lt h.own k hk).1
    have := h.lt
    omega
  exact ⟨hr1.put 4 v1, owt_off ho (row_ne hr1 tH_ne ho) _, grown_put hfar v1, hlow.setCell (p := ⟨g, 4, none⟩) h.lt.1 _, h.lt⟩
end
end Go.Proofs.YtnehgogajghefaaDoor.Hu
namespace Go.Proofs.YtnehgogajghefaaDoor.Hu
open Df

/-- behind an edit -/
def fin (e : Ed) : Int := e.pos + e.del
/-- those behind a first edit that are in one hunk with it, and the others -/
def spl (r : Nat) : Ed → List Ed → List Ed × List Ed
  | _, [] => ([], [])
  | e, f :: l => if f.pos - fin e ≤ 2 * r then (f :: (spl r f l).1, (spl r f l).2) else ([], f :: l)
theorem spl_eq (r : Nat) : ∀ (l : List Ed) (e : Ed), (spl r e l).1 ++ (spl r e l).2 = l
  | [], _ => rfl
  | f :: l, e => by
    rw [spl]
    split
    · rw [List.cons_append, spl_eq r l f]
    · rfl
theorem spl_len (r : Nat) (l : List Ed) (e : Ed) : (spl r e l).1.length + (spl r e l).2.length = l.length := by
  have := congrArg List.length (spl_eq r l e)
  rwa [List.length_append] at this
def lastF : Int → List Ed → Int
  | z, [] => z
  | _, e :: l => lastF (fin e) l
/-- a hunk's parts: lines from 'z' on -/
def pts (a : Ls) (r : Nat) : Nat → List Ed → List Pt
  | z, [] => if (a.drop z).take r = [] then [] else [⟨(a.drop z).take r, [], []⟩]
  | z, e :: g => ⟨(a.drop z).take (e.pos.toNat - z), (a.drop e.pos.toNat).take e.del.toNat, e.ins⟩ :: pts a r (e.pos.toNat + e.del.toNat) g
/-- with which line a hunk begins -/
def from_ (r : Nat) (e : Ed) : Nat := (e.pos - r).toNat
def oneH (a : Ls) (r : Nat) (more : Int) (g : List Ed) (z : Nat) : Hk :=
  ⟨z, many 45 (lay (pts a r z g)), z + more, many 43 (lay (pts a r z g)), lay (pts a r z g)⟩
def mkHs (a : Ls) (r : Nat) : Int → List Ed → List Hk
  | _, [] => []
  | more, e :: l => oneH a r more (e :: (spl r e l).1) (from_ r e) ::
      mkHs a r (more + ((oneH a r more (e :: (spl r e l).1) (from_ r e)).bn - (oneH a r more (e :: (spl r e l).1) (from_ r e)).an)) (spl r e l).2
termination_by _ l => l.length
decreasing_by
  have := spl_len r l e
  simp only [List.length_cons]
  omega
def delta : List Ed → Int
  | [] => 0
  | e :: g => e.ins.length - e.del + delta g
end Go.Proofs.YtnehgogajghefaaDoor.Hu
