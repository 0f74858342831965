/-
  Are regions right? In memory.
-/
import Derived.BigQuiet
import Derived.Test.YtghnieddokhagaaQKR
import Derived.Test.YtghnieddokhagaaQReg
import Derived.Test.YtghnieddokhagaaQEK
import Derived.Test.YtghnieddokhagaaQJO
namespace Go.Proofs.Ytghnieddokhagaa.Al
open Go Go.RowKit Kt Kg Lw Li Df Kf

abbrev tW : TypeId := 82
/-- what came in, ahead of a call: three lists in blocks that were there -/
structure In3 (w0 : World) (Ao Aa Ab : Option Addr) (co ca cb : Nat) (o a b : Ls) : Prop where
  o_ : Vs w0 (fun b => b < w0.heap.size) Ao co (texts o)
  a_ : Vs w0 (fun b => b < w0.heap.size) Aa ca (texts a)
  b_ : Vs w0 (fun b => b < w0.heap.size) Ab cb (texts b)
  lo_ : o.length ≤ 1000000000
  la_ : a.length ≤ 1000000000
  lb_ : b.length ≤ 1000000000
/-- three rows that are gone through -/
structure Three (w0 W : World) (gx gy gz : Nat) (Ao Aa Ab : Option Addr) (no co na ca nb cb X Y Z : Nat) : Prop where
  x : Row W gx tW [.slice Ao no co, .int .i64 X]
  y : Row W gy tW [.slice Aa na ca, .int .i64 Y]
  z : Row W gz tW [.slice Ab nb cb, .int .i64 Z]
  low : Below w0.heap.size w0 W
  out : w0.heap.size ≤ gx ∧ w0.heap.size ≤ gy ∧ w0.heap.size ≤ gz
  ne : gx ≠ gy ∧ gx ≠ gz ∧ gy ≠ gz
theorem Three.keep {w0 A B : World} {gx gy gz : Nat} {Ao Aa Ab : Option Addr} {no co na ca nb cb X Y Z : Nat} (h : Three w0 A gx gy gz Ao Aa Ab no co na ca nb cb X Y Z) (hb : Below A.heap.size A B) : Three w0 B gx gy gz Ao Aa Ab no co na ca nb cb X Y Z :=
  ⟨h.x.below hb h.x.lt, h.y.below hb h.y.lt, h.z.below hb h.z.lt, h.low.trans (hb.mono h.low.size), h.out, h.ne⟩
end Go.Proofs.Ytghnieddokhagaa.Al
namespace Go.Proofs.Ytghnieddokhagaa.Df
open Go Go.RowKit Kt Lw Li

theorem lit_vs (w : World) (E : TypeId) (l : Ls) : Vs (w.alloc (.cells (texts l).toArray E)) (fun _ => True) (some ⟨w.heap.size, 0, none⟩) l.length (texts l) :=
  ⟨by simp [texts], fun _ => ⟨w.heap.size, 0, rfl, trivial, fun j v hj => by
    rw [Nat.zero_add, (Row.fresh w _ _).cell]
    exact hj⟩⟩
theorem lit_es (w : World) (e : Ed) (A : Option Addr) (c : Nat) (P : Nat → Prop) (h : Vs w P A c (texts e.ins)) (E : TypeId) : Es (w.alloc (.cells (edC e (.slice A e.ins.length c)).toArray E)) (some ⟨w.heap.size, 0, none⟩) 1 [e] :=
  ⟨by simp, fun _ => ⟨w.heap.size, 0, rfl, by simp, fun j e' hj => by
    have hj0 : j = 0 := by
      have := (List.getElem?_eq_some_iff.1 hj).1
      simpa using this
    subst hj0
    simp at hj
    subst hj
    refine ⟨A, c, fun k v hk => ?_, Lw.Vs.bound (Lw.Vs.below h ((Below.refl _ w).alloc (Nat.le_refl _) _))⟩
    rw [show 0 + 3 * 0 + k = k from by omega, (Row.fresh w _ _).cell]
    exact hk⟩⟩
abbrev abc : Ls := [[97], [98], [99]]
abbrev axc : Ls := [[97], [120], [99]]
theorem D_abc : D abc axc = [⟨1, 1, [[120]]⟩] := by
  have h1 : fr abc axc = 1 := by decide
  have h2 : bk abc axc = 1 := by decide
  have h3 : mid abc 1 1 = [[98]] := by decide
  have h4 : mid axc 1 1 = [[120]] := by decide
  unfold D
  rw [h1, h2, h3, h4, if_pos (by decide), go_both, if_neg (by decide), if_pos (by rw [lcs_nil_right]; exact Nat.zero_le _), go_come, go_nil]
  rfl
end Go.Proofs.Ytghnieddokhagaa.Df
namespace Go.Proofs.Ytghnieddokhagaa.Al
open Go Go.RowKit Kt Kg Lw Li Df

abbrev xO : Ls := [[49], [50], [51]]
abbrev xA : Ls := [[49], [120], [51]]
abbrev xB : Ls := [[49], [50], [51], [52]]
theorem D_xA : D xO xA = [⟨1, 1, [[120]]⟩] := by
  have h1 : fr xO xA = 1 := by decide
  have h2 : bk xO xA = 1 := by decide
  have h3 : mid xO 1 1 = [[50]] := by decide
  have h4 : mid xA 1 1 = [[120]] := by decide
  unfold D
  rw [h1, h2, h3, h4, if_pos (by decide), go_both, if_neg (by decide), if_pos (by rw [lcs_nil_right]; exact Nat.zero_le _), go_come, go_nil]
  rfl
theorem D_xB : D xO xB = [⟨3, 0, [[52]]⟩] := by
  have h1 : fr xO xB = 3 := by decide
  have h2 : bk xO xB = 0 := by decide
  have h3 : mid xO 3 0 = [] := by decide
  have h4 : mid xB 3 0 = [[52]] := by decide
  rw [D_add xO xB (.inl (by rw [h1, h2, h3])), h1, h2, h3, h4]
  rfl
theorem mrg_x : mrg (D xO xA) (D xO xB) = [(false, ⟨1, 1, [[120]]⟩), (true, ⟨3, 0, [[52]]⟩)] := by
  rw [D_xA, D_xB, mrg, if_pos (by decide), mrg]
  rfl
abbrev xL : List Rg := [⟨0, 0, 1, 0, 1, 0, 1⟩, ⟨1, 1, 1, 1, 1, 1, 1⟩, ⟨0, 2, 1, 2, 1, 2, 1⟩, ⟨2, 3, 0, 3, 0, 3, 1⟩]
theorem regs_x : regs xO xA xB = xL := by
  unfold regs
  rw [mrg_x, loop_cons]
  have g1 : grow ((Cl.zero 1).take false ⟨1, 1, [[120]]⟩) [(true, ⟨3, 0, [[52]]⟩)] = (⟨1, 2, 1, 0, 0, 0⟩, [(true, ⟨3, 0, [[52]]⟩)]) := by rfl
  simp only [g1]
  rw [loop_cons]
  have g2 : grow ((Cl.zero 3).take true ⟨3, 0, [[52]]⟩) [] = (⟨3, 3, 0, 0, 1, 1⟩, []) := by rfl
  simp only [g2]
  rw [loop_nil]
  decide
theorem ok_x : okF xO xA xB 0 0 0 xL = true := by decide
end Go.Proofs.Ytghnieddokhagaa.Al
namespace Go.Proofs.Ytghnieddokhagaa.Al
open Go Go.RowKit Kt Kg Lw Li Df

theorem okF_cons {o a b : Ls} {x y z : Int} {r : Rg} {l : List Rg} (h : okF o a b x y z (r :: l) = true) : ((0 ≤ r.on ∧ r.on ≤ o.length - x) ∧ (0 ≤ r.an ∧ r.an ≤ a.length - y) ∧ (0 ≤ r.bn ∧ r.bn ≤ b.length - z)) ∧ okF o a b (x + r.on) (y + r.an) (z + r.bn) l = true := by
  rw [okF, Bool.and_eq_true] at h
  obtain ⟨h1, h2⟩ := h
  unfold chk at h1
  rw [Bool.and_eq_true, Bool.and_eq_true, Bool.and_eq_true, fol_yes, fol_yes, fol_yes] at h1
  exact ⟨⟨h1.1.1.1.2, h1.1.1.2.2, h1.1.2.2⟩, h2⟩
theorem okF_small {o a b : Ls} : ∀ {l : List Rg} {x y z : Int}, okF o a b x y z l = true → 0 ≤ x → 0 ≤ y → 0 ≤ z → ∀ r ∈ l, (0 ≤ r.on ∧ r.on ≤ o.length) ∧ (0 ≤ r.an ∧ r.an ≤ a.length) ∧ (0 ≤ r.bn ∧ r.bn ≤ b.length)
  | [], _, _, _, _, _, _, _, _, hr => by cases hr
  | q :: l, x, y, z, h, hx, hy, hz, r, hr => by
    obtain ⟨h1, h2⟩ := okF_cons h
    rcases List.mem_cons.1 hr with rfl | hr
    · omega
    · exact okF_small h2 (by omega) (by omega) (by omega) r hr
theorem okF_len {o a b : Ls} : ∀ {l : List Rg} {x y z : Int}, okF o a b x y z l = true → (∀ r ∈ l, 1 ≤ r.on + r.an + r.bn) → (l.length : Int) ≤ (o.length - x) + (a.length - y) + (b.length - z)
  | [], x, y, z, h, _ => by
    simp [okF] at h
    simp; omega
  | q :: l, x, y, z, h, hp => by
    obtain ⟨h1, h2⟩ := okF_cons h
    have := okF_len h2 fun r hr => hp r (by simp [hr])
    have := hp q (by simp)
    simp only [List.length_cons]
    omega
theorem Trio.keep {w w' : World} {Ao Aa Ab : Option Addr} {co ca cb : Nat} {o a b : Ls} (h : Trio w Ao Aa Ab co ca cb o a b) (hb : Below w.heap.size w w') : Trio w' Ao Aa Ab co ca cb o a b :=
  ⟨vs_keep h.o_ hb, vs_keep h.a_ hb, vs_keep h.b_ hb, h.lo_, h.la_, h.lb_⟩
theorem Trio.in3 {w : World} {Ao Aa Ab : Option Addr} {co ca cb : Nat} {o a b : Ls} (h : Trio w Ao Aa Ab co ca cb o a b) : In3 w Ao Aa Ab co ca cb o a b :=
  ⟨h.o_, h.a_, h.b_, Nat.le_trans h.lo_ (by omega), Nat.le_trans h.la_ (by omega), Nat.le_trans h.lb_ (by omega)⟩
end Go.Proofs.Ytghnieddokhagaa.Al
