/-
  Hunks edit by edit: the group so far, the last hunk opened and filled; the reference's Make: what its round holds, and its parts by number.
-/
import Derived.Test.YtnehgogajghefaaDoorIC
import Derived.Test.YtnehgogajghefaaDoorQ9
import Derived.Test.YtnehgogajghefaaDoorQ7
import Derived.Test.YtnehgogajghefaaDoorQ8
import Derived.Test.YtnehgogajghefaaDoorQ3
import Derived.Deep.Slices
import Derived.Deep.Fields
import Derived.Deep.Strs
import Derived.Test.YtnehgogajghefaaDoorQ2
import Derived.SizedLaws
import Derived.Test.YtnehgogajghefaaDoorHX
import Derived.Deep.CutRange
import Derived.Deep.CutBlock
namespace Go.Proofs.YtnehgogajghefaaDoor.Hu
open Go Go.RowKit Kt Lw Li Df

/-- edits that are in one hunk, which begins with line z -/
def Gr (r : Nat) (G : List Ed) (z : Nat) : Prop := ∃ e g, G = e :: g ∧ Whole r e g ∧ z = from_ r e
theorem Gr.one (r : Nat) (f : Ed) : Gr r [f] (from_ r f) := ⟨f, [], rfl, Whole.nil r f, rfl⟩
section
variable {w w' : World} {B go cap : Nat} {V : List (Hk × Value)} {e : Hk} {vi : Value}
end
end Go.Proofs.YtnehgogajghefaaDoor.Hu
namespace Go.Proofs.YtnehgogajghefaaDoor.Hu
open Go Go.RowKit Kt Lw Li Df

/-- the last hunk is open: its lines are a row of the call's own, and no other hunk's -/
structure OP (w : World) (B go cap : Nat) (V : List (Hk × Value)) (e : Hk) (vi : Value) : Prop where
  out : OH w B go cap V e vi
  own : OwT w B tS vi e.lines
  apart : ∀ p ∈ V, ∀ b, vi.ownBlock = some b → p.2.ownBlock ≠ some b
theorem OP.keep {w w' : World} {B go cap : Nat} {V : List (Hk × Value)} {e : Hk} {vi : Value} (h : OP w B go cap V e vi) (hb : Below w.heap.size w w') : OP w' B go cap V e vi :=
  ⟨h.out.keep hb, h.own.kept hb, h.apart⟩
/-- all hunks so far are whole -/
def Shut (a : Ls) (r : Nat) (L : List Ed) (T : List Hk) (w : World) (B : Nat) (o : Value) (k : Nat) (more : Int) : Prop :=
  ∃ done, OwH w B o done ∧ done ++ mkHs a r more (L.drop k) = T ∧ done.length ≤ k ∧ right a.length (-1) (L.drop k) = true ∧ ∀ e f, k ≠ 0 → L[k - 1]? = some e → L[k]? = some f → 2 * (r : Int) < f.pos - fin e
/-- the last hunk goes on: of the edits G are in it -/
structure Go1 (a : Ls) (r : Nat) (T : List Hk) (w : World) (B go cap : Nat) (V : List (Hk × Value)) (e : Hk) (vi : Value) (G l : List Ed) (z0 : Nat) (m0 : Int) (z : Nat) (more : Int) : Prop where
  op : OP w B go cap V e vi
  num : e.a = z0 ∧ e.b = z0 + m0
  lines : e.lines = body a z0 G
  tot : V.map (·.1) ++ mkHs a r m0 (G ++ l) = T
  right : right a.length (-1) (G ++ l) = true
  fin : z = endB z0 G
  more : more = m0 + delta G
def Open (a : Ls) (r : Nat) (L : List Ed) (T : List Hk) (w : World) (B : Nat) (o : Value) (k z : Nat) (more : Int) : Prop :=
  k ≠ 0 ∧ k < L.length ∧ ∃ go cap V e vi G z0 m0, o = .slice (some ⟨go, 0, none⟩) (V.length + 1) cap ∧ Go1 a r T w B go cap V e vi G (L.drop k) z0 m0 z more ∧ Gr r G z0 ∧ V.length < k ∧ e.lines.length ≤ 1100 * k ∧
    ∀ e f, L[k - 1]? = some e → L[k]? = some f → Hu.fin e = z ∧ f.pos - Hu.fin e ≤ 2 * (r : Int)
theorem Shut.keep {a : Ls} {r : Nat} {L : List Ed} {T : List Hk} {w w' : World} {B : Nat} {o : Value} {k : Nat} {more : Int} (h : Shut a r L T w B o k more) (hb : Below w.heap.size w w') : Shut a r L T w' B o k more := by
  obtain ⟨done, h1, h2⟩ := h
  exact ⟨done, h1.keep hb, h2⟩
theorem Go1.keep {a : Ls} {r : Nat} {T : List Hk} {w w' : World} {B go cap : Nat} {V : List (Hk × Value)} {e : Hk} {vi : Value} {G l : List Ed} {z0 : Nat} {m0 : Int} {z : Nat} {more : Int} (h : Go1 a r T w B go cap V e vi G l z0 m0 z more) (hb : Below w.heap.size w w') : Go1 a r T w' B go cap V e vi G l z0 m0 z more :=
  ⟨h.op.keep hb, h.num, h.lines, h.tot, h.right, h.fin, h.more⟩
theorem Open.keep {a : Ls} {r : Nat} {L : List Ed} {T : List Hk} {w w' : World} {B : Nat} {o : Value} {k z : Nat} {more : Int} (h : Open a r L T w B o k z more) (hb : Below w.heap.size w w') : Open a r L T w' B o k z more := by
  obtain ⟨h1, h2, go, cap, V, e, vi, G, z0, m0, h3, h4, h5⟩ := h
  exact ⟨h1, h2, go, cap, V, e, vi, G, z0, m0, h3, h4.keep hb, h5⟩
end Go.Proofs.YtnehgogajghefaaDoor.Hu
