/-
  Where a cluster's lines are, on lists.
-/
import Derived.Test.YteehbpnbephojaaJH
namespace Go.Proofs.Yteehbpnbephojaa.Al
open Go.Proofs.Yteehbpnbephojaa.Df

theorem far_last {o a b : Ls} : ∀ {l : List Rg} {x y z x' y' z' : Int} {r : Rg}, Far o a b x y z (l ++ [r]) x' y' z' → 0 ≤ r.on ∧ 0 ≤ r.an ∧ 0 ≤ r.bn
  | [], _, _, _, _, _, _, _, h => by
    have h1 := h.1
    unfold chk at h1
    rw [Bool.and_eq_true, Bool.and_eq_true, Bool.and_eq_true, fol_yes, fol_yes, fol_yes] at h1
    exact ⟨h1.1.1.1.2.1, h1.1.1.2.2.1, h1.1.2.2.1⟩
  | _ :: _, _, _, _, _, _, _, _, h => far_last h.2
/-- where the lines of a cluster, and those ahead of it, are -/
structure Szs (o a b : Ls) (s : St) (c : Cl) (X Y Z p t M1 M2 : Nat) : Prop where
  x : s.x = X
  y : s.y = Y
  z : s.z = Z
  fr : c.fr = p
  to : c.to = t
  Xp : X ≤ p
  pt : p ≤ t
  po : t ≤ o.length
  Ya : Y + (p - X) ≤ a.length
  Zb : Z + (p - X) ≤ b.length
  kx : (s.keep a b p).x = p
  ky : (s.keep a b p).y = (Y + (p - X) : Nat)
  kz : (s.keep a b p).z = (Z + (p - X) : Nat)
  m1 : ((t - p : Nat) : Int) + c.m0 = M1
  m2 : ((t - p : Nat) : Int) + c.m1 = M2
  Y1 : Y + (p - X) + M1 ≤ a.length
  Z1 : Z + (p - X) + M2 ≤ b.length
theorem RInv.szs {o a b : Ls} {V : List (Bool × Ed)} {s : St} {d : Bool} {e : Ed} {r : List (Bool × Ed)} (h : RInv o a b V s ((d, e) :: r)) : ∃ X Y Z p t M1 M2, Szs o a b s (clo d e r) X Y Z p t M1 M2 := by
  obtain ⟨X, Y, Z, hx, hy, hz, hX, hY, hZ, ha, hb⟩ := h.inv.at_
  have hl := h.low (d, e) (by simp)
  simp only at hl
  have hn := h.next
  obtain ⟨X2, Y2, Z2, hx2, hy2, hz2, hX2, hY2, hZ2, _, _⟩ := hn.inv.at_
  obtain ⟨hf, hto, _⟩ := clo_to (d := d) (e := e) (r := r) hl.2.1 hl.2.2.1
  have hto := hto (d, e) (by simp [clu])
  simp only at hto
  obtain ⟨p, hp⟩ := Int.eq_ofNat_of_zero_le (show 0 ≤ e.pos by omega)
  have hnx := h.next_x
  obtain ⟨t, ht⟩ := Int.eq_ofNat_of_zero_le (show 0 ≤ (clo d e r).to by omega)
  have hfar := far_last (l := (s.keep a b (clo d e r).fr).l) hn.inv.far
  simp only at hfar
  rw [hf, hp, ht] at hfar
  have hXp : X ≤ p := by omega
  have srt1 := (List.pairwise_cons.1 h.inv.srt).1
  have hpos : ∀ q ∈ (d, e) :: r, (p : Int) ≤ q.2.pos := by
    intro q hq
    rcases List.mem_cons.1 hq with h' | h'
    · subst h'; simp only; omega
    · have := srt1 _ h'; simp only at this ⊢; omega
  have hpo : p ≤ o.length := by omega
  have pa := congrArg List.length (ha.trans (play_keep o X p (ofS false ((d, e) :: r)) hXp hpo fun f hf => hpos _ (mem_ofS.1 hf)))
  have pb := congrArg List.length (hb.trans (play_keep o X p (ofS true ((d, e) :: r)) hXp hpo fun f hf => hpos _ (mem_ofS.1 hf)))
  rw [List.length_drop, List.length_append, List.length_take, List.length_drop] at pa pb
  have hk : (s.keep a b p).x = p ∧ (s.keep a b p).y = (Y + (p - X) : Nat) ∧ (s.keep a b p).z = (Z + (p - X) : Nat) := by
    unfold St.keep
    split
    · show s.x + (p - s.x) = _ ∧ s.y + (p - s.x + 0) = _ ∧ s.z + (p - s.x + 0) = _
      omega
    · rename_i hh
      have : X = p := by omega
      subst this
      omega
  have hy3 : (nxt a b s d e r).y = (s.keep a b (clo d e r).fr).y + ((clo d e r).to - (clo d e r).fr + (clo d e r).m0) := rfl
  have hz3 : (nxt a b s d e r).z = (s.keep a b (clo d e r).fr).z + ((clo d e r).to - (clo d e r).fr + (clo d e r).m1) := rfl
  rw [hy2, hf, hp, ht, hk.2.1] at hy3
  rw [hz2, hf, hp, ht, hk.2.2] at hz3
  obtain ⟨M1, hM1⟩ := Int.eq_ofNat_of_zero_le hfar.2.1
  obtain ⟨M2, hM2⟩ := Int.eq_ofNat_of_zero_le hfar.2.2
  rw [hM1] at hy3
  rw [hM2] at hz3
  exact ⟨X, Y, Z, p, t, M1, M2, hx, hy, hz, hf.trans hp, ht, hXp, by omega, by omega, by omega, by omega, hk.1, hk.2.1, hk.2.2, by omega, by omega, by omega, by omega⟩
end Go.Proofs.Yteehbpnbephojaa.Al
