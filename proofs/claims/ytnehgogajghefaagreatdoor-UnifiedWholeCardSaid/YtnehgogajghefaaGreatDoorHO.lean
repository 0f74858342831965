/-
  Edits and Turn of a right hunk; the reference's One, of hunks that are one, and Few.
-/
import Derived.Test.YtnehgogajghefaaGreatDoorHN
namespace Go.Proofs.YtnehgogajghefaaGreatDoor.Hu
open Go Go.RowKit Kt Lw Li Df

theorem hedits_any (h : Hk) (A : Option Addr) (c : Nat) (P : Nat → Prop) (w : World) (hs : Vs w P A c (texts h.lines)) (hn : h.lines.length ≤ 100000) (hr : hright h = true) (hz : -1099511627776 ≤ h.a ∧ h.a ≤ 1099511627776) :
    Calls Tryz.prog 10 #[.agg #[.int .i64 h.a, .int .i64 h.an, .int .i64 h.b, .int .i64 h.bn, .slice A h.lines.length c]] w fun y w' => ∃ v, y = .returned v ∧ OwE w' w.heap.size v (hedits h) ∧ Below w.heap.size w w' := by
  obtain ⟨ps, hg, hl, he, ht, _⟩ := hparts hr
  obtain ⟨a, an, b, bn, l⟩ := h
  simp only at hl hs hn hz hr he ⊢
  subst hl
  rw [he]
  exact edits_any a an b bn ps hg A c P w hs hn hr hz
set_option maxHeartbeats 1000000 in
set_option maxRecDepth 100000 in
theorem one_same (h : Hk) (A A' : Option Addr) (c c' : Nat) (P P' : Nat → Prop) (w : World) (hs : Vs w P A c (texts h.lines)) (hs' : Vs w P' A' c' (texts h.lines)) (hn : h.lines.length ≤ 100000) :
    Calls Tryz.prog 33 #[.agg #[.int .i64 h.a, .int .i64 h.an, .int .i64 h.b, .int .i64 h.bn, .slice A h.lines.length c], .agg #[.int .i64 h.a, .int .i64 h.an, .int .i64 h.b, .int .i64 h.bn, .slice A' h.lines.length c']] w fun y w' => y = .returned (.bool true) ∧ Below w.heap.size w w' := by
  obtain ⟨a, an, b, bn, l⟩ := h
  simp only at hs hs' hn ⊢
  have Ht := hide (fun w1 (hb : Below w.heap.size w w1) => texts_any l l A A' c c' _ _ w1 (Lw.Vs.below hs.bound hb) (Lw.Vs.below hs'.bound hb) (by omega))
  have hdt : decide (l = l) = true := decide_eq_true rfl
  rw [hdt] at Ht
  obtain ⟨N, hN⟩ : ∃ N, N = l.length := ⟨_, rfl⟩
  rw [← hN] at Ht ⊢
  clear hs hs' hn hN hdt
  go_enter Tryz.func33, Tryz.ntmps33
  go_wp2_with fail
  refine (Ht.out _ (((Below.refl _ w).alloc (Nat.le_refl _) _).alloc (by simp) _)).mono ?_
  rintro y w1 ⟨rfl, hb1⟩
  have hb2 := (((Below.refl w.heap.size w).alloc (Nat.le_refl _) _).alloc (by simp) _).trans (hb1.mono (by simp; omega))
  clear hb1
  go_wp2
  go_ret
  exact ⟨rfl, hb2⟩
def tooBig (h : Hk) : Prop := 30 < (h.lines.length : Int) ∨ 1048576 < h.a ∨ 1048576 < h.b ∨ 1048576 < h.an ∨ 1048576 < h.bn ∨ h.a < -1048576 ∨ h.b < -1048576 ∨ h.an < -1048576 ∨ h.bn < -1048576
instance (h : Hk) : Decidable (tooBig h) := by unfold tooBig; infer_instance
def fewH (L : List Hk) : Bool := decide (∀ h ∈ L, ¬ tooBig h) && decide (L.length ≤ 12)
theorem few_no {L : List Hk} {h : Hk} {k : Nat} (hk : L[k]? = some h) (hb : tooBig h) : fewH L = false := by
  unfold fewH
  rw [decide_eq_false fun h' => h' h (List.mem_of_getElem? hk) hb]; rfl
end Go.Proofs.YtnehgogajghefaaGreatDoor.Hu
