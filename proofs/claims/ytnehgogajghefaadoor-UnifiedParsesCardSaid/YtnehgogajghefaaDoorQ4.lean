/-
  What is between two lists: front, end, and the way between; what follows. On lists alone.
-/
import Derived.Test.YtnehgogajghefaaDoorQ3
namespace Go.Proofs.YtnehgogajghefaaDoor.Df

/-- how many in a row, from k on, p holds of, of so many at most -/
def run (p : Nat → Bool) : Nat → Nat → Nat
  | k, 0 => k
  | k, m + 1 => if p k = true then run p (k + 1) m else k
structure IsRun (p : Nat → Bool) (most n : Nat) : Prop where
  le : n ≤ most
  all : ∀ j, j < n → p j = true
  stop : n < most → p n = false
theorem IsRun.congr {p q : Nat → Bool} {m n : Nat} (h : IsRun p m n) (he : ∀ j, j < m → p j = q j) : IsRun q m n :=
  ⟨h.le, fun j hj => by rw [← he j (by have := h.le; omega)]; exact h.all j hj, fun hn => by rw [← he n hn]; exact h.stop hn⟩

def frP (a b : Ls) (i : Nat) : Bool := decide (a.getD i [] = b.getD i [])
def bkP (a b : Ls) (i : Nat) : Bool := decide (a.getD (a.length - 1 - i) [] = b.getD (b.length - 1 - i) [])
def fr (a b : Ls) : Nat := run (frP a b) 0 (min a.length b.length)
def bk (a b : Ls) : Nat := run (bkP a b) 0 (min a.length b.length - fr a b)
/-- what is left of a list without so many in front, and behind -/
def mid (a : Ls) (f e : Nat) : Ls := (a.drop f).take (a.length - e - f)
/-- what is between two lists -/
def D (a b : Ls) : List Ed :=
  if (mid a (fr a b) (bk a b)).length * (mid b (fr a b) (bk a b)).length ≤ 65536 then go (mid a (fr a b) (bk a b)) (mid b (fr a b) (bk a b)) (fr a b) 0 []
  else emit (fr a b) (mid a (fr a b) (bk a b)).length (mid b (fr a b) (bk a b))
end Go.Proofs.YtnehgogajghefaaDoor.Df
namespace Go.Proofs.YtnehgogajghefaaDoor.Df
open Go Go.RowKit Kt Lw

/-- the edit number k, in a world behind -/
theorem Es.at {w w' : World} {A : Option Addr} {c : Nat} {L : List Ed} (h : Es w A c L) (hb : Below w.heap.size w w') {k : Nat} (hk : k < L.length) :
    ∃ b o e A' c', A = some ⟨b, o, none⟩ ∧ L[k]? = some e ∧ (w'.cell? ⟨b, o + k * 3, none⟩ = some (.int .i64 e.pos) ∧ w'.cell? ⟨b, o + k * 3 + 1, none⟩ = some (.int .i64 e.del) ∧ w'.cell? ⟨b, o + k * 3 + 2, none⟩ = some (.slice A' e.ins.length c')) ∧ Vs w (fun b => b < w.heap.size) A' c' (texts e.ins) := by
  obtain ⟨b, o, rfl, hlt, he⟩ := h.2 (by omega)
  obtain ⟨A', c', h1, h2⟩ := he k _ (List.getElem?_eq_getElem hk)
  rw [Nat.mul_comm] at h1
  have h3 : ∀ i v, (edC L[k] (.slice A' (L[k]).ins.length c'))[i]? = some v → w'.cell? ⟨b, o + k * 3 + i, none⟩ = some v := fun i v hi => (World.cell?_of_block (a := ⟨b, o + k * 3 + i, none⟩) (hb.block b hlt)).trans (h1 i v hi)
  exact ⟨b, o, _, A', c', rfl, List.getElem?_eq_getElem hk, ⟨h3 0 _ rfl, h3 1 _ rfl, h3 2 _ rfl⟩, h2⟩
end Go.Proofs.YtnehgogajghefaaDoor.Df
namespace Go.Proofs.YtnehgogajghefaaDoor.Df
open Go Go.RowKit Kt Lw

theorem infoText : (Tryd.prog.info? 9).map (fun i => (i.zero, i.size, i.bytes)) = some (some (.string ⟨#[]⟩), 1, 16) := by kernel_rfl
theorem OwT.one {w : World} {B : Nat} {v : Value} {l : Ls} (h : OwT w B tS v l) : v.oneCell' = true := by
  rcases h.2 with ⟨rfl, _⟩ | ⟨g, cap, cur, rfl, _⟩ <;> rfl
end Go.Proofs.YtnehgogajghefaaDoor.Df
