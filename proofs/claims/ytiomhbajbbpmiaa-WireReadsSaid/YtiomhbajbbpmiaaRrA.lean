/-
  The reference's reader: Left, and End.
-/
import Derived.Test.YtiomhbajbbpmiaaWI
import Derived.Test.YtiomhbajbbpmiaaWN
import Derived.Test.YtiomhbajbbpmiaaWK
namespace Go.Proofs.Ytiomhbajbbpmiaa.Wr
open Go Go.RowKit Kt

/-- the reference's reader in block g: its bytes, how many are behind it, why it failed -/
def RR (w : World) (B g : Nat) (bs : List UInt8) (at_ e : Nat) : Prop :=
  ∃ A c, Row w g 35 [.slice A bs.length c, .int .i64 (at_ : Int), .int .i64 (e : Int)] ∧ Sl w (fun b => b < B) A c bs ∧ B ≤ g ∧ at_ ≤ bs.length ∧ bs.length ≤ 200
theorem RR.lt {w : World} {B g : Nat} {bs : List UInt8} {at_ e : Nat} (h : RR w B g bs at_ e) : g < w.heap.size := by obtain ⟨A, c, hr, _⟩ := h; exact hr.lt
theorem RR.drewN {w : World} {B g : Nat} {bs : List UInt8} {at_ e : Nat} (h : RR w B g bs at_ e) (n : Nat) : RR (w.drewN n) B g bs at_ e := h
theorem RR.below {w w' : World} {B g : Nat} {bs : List UInt8} {at_ e : Nat} (h : RR w B g bs at_ e) (hb : Below w.heap.size w w') : RR w' B g bs at_ e := by
  obtain ⟨A, c, hr, hs, hB, h1, h2⟩ := h
  exact ⟨A, c, hr.below hb hr.lt, hs.move fun b _ hlt => hb.block b hlt, hB, h1, h2⟩

theorem Only.drewN {S : Nat → Prop} {a b : World} (h : Only S a b) (n : Nat) : Only S a (b.drewN n) := ⟨h.os, h.tape, h.output, h.size, h.block⟩
theorem RR.only {S : Nat → Prop} {w w' : World} {B g : Nat} {bs : List UInt8} {at_ e : Nat} (h : RR w B g bs at_ e) (ho : Only S w w') (hg : ¬ S g) (hS : ∀ b, b < B → ¬ S b) : RR w' B g bs at_ e := by
  obtain ⟨A, c, hr, hs, hB, h1, h2⟩ := h
  exact ⟨A, c, hr.only ho hg, hs.only ho hS, hB, h1, h2⟩

set_option maxHeartbeats 1000000 in
set_option maxRecDepth 100000 in
theorem rleft_any {w : World} {B g : Nat} {bs : List UInt8} {at_ e : Nat} (h : RR w B g bs at_ e) :
    Calls Try.prog 22 #[.pointer (some ⟨g, 0, none⟩)] w fun y w' => y = .returned (.int .i64 (bs.length - at_ : Nat)) ∧ ∃ n, w' = w.drewN n := by
  obtain ⟨A, c, hr, _, _, h1, h2⟩ := h
  have c0 : w.cell? ⟨g, 0, none⟩ = some (.slice A bs.length c) := hr.cell 0
  have c1 : w.cell? ⟨g, 1, none⟩ = some (.int .i64 (at_ : Int)) := hr.cell 1
  have hsub : (bs.length : Int) - (at_ : Int) = ((bs.length - at_ : Nat) : Int) := by omega
  have Hr := hide hr
  clear hr
  go_enter Try.func22, Try.ntmps22
  go_wp2
  go_quiet (fail)
  go_wp2
  go_ret
  exact ⟨rfl, _, rfl⟩

set_option maxHeartbeats 1000000 in
set_option maxRecDepth 100000 in
theorem rend_any {w : World} {B g : Nat} {bs : List UInt8} {at_ e : Nat} (h : RR w B g bs at_ e) :
    Calls Try.prog 25 #[.pointer (some ⟨g, 0, none⟩)] w fun y w' => y = .returned (.int .i64 (endOf (bs.drop at_) e : Nat)) ∧ ∃ n, w' = w.drewN n := by
  have Hrr := hide h
  obtain ⟨A, c, hr, _, _, h1, h2⟩ := h
  have c2 : w.cell? ⟨g, 2, none⟩ = some (.int .i64 (e : Int)) := hr.cell 2
  have Hd := hide (show (bs.drop at_).length = bs.length - at_ from List.length_drop)
  clear hr
  by_cases he : e = 0
  · subst he
    go_enter Try.func25, Try.ntmps25
    go_wp2_with fail
    refine (rleft_any Hrr.out).mono ?_
    rintro y w1 ⟨rfl, n, rfl⟩
    by_cases hl : 0 < bs.length - at_
    · have HE := hide (show endOf (bs.drop at_) 0 = 5 by unfold endOf; rw [if_pos rfl, Hd.out, if_pos hl])
      go_wp2
      go_ret
      rw [HE.out]
      exact ⟨rfl, _, rfl⟩
    · have HE := hide (show endOf (bs.drop at_) 0 = 0 by unfold endOf; rw [if_pos rfl, Hd.out, if_neg hl])
      go_wp2
      go_ret
      rw [HE.out]
      exact ⟨rfl, _, rfl⟩
  · have hb : ((e : Int) != 0) = true := by rw [bne_iff_ne]; omega
    have HE := hide (show endOf (bs.drop at_) e = e by unfold endOf; rw [if_neg he])
    go_enter Try.func25, Try.ntmps25
    go_wp2
    go_ret
    rw [HE.out]
    exact ⟨rfl, 0, rfl⟩
end Go.Proofs.Ytiomhbajbbpmiaa.Wr
