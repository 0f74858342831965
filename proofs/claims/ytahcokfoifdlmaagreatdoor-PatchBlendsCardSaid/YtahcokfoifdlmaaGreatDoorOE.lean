/-
  Two sides' trees, together: a round's first steps, whatever their order is.
-/
import Derived.TacticsInMore
import Derived.BigFrameIn
import Derived.RangeFuncCalls
import Derived.Shelf.Abstract
import Derived.Test.YtahcokfoifdlmaaGreatDoorQQG
import Derived.Test.YtahcokfoifdlmaaGreatDoorQWS
import Derived.Test.YtahcokfoifdlmaaGreatDoorOC
import Derived.Test.YtahcokfoifdlmaaGreatDoorOD
namespace Go.Proofs.YtahcokfoifdlmaaGreatDoor.Tr
open Go Go.RowKit Go.Shelf Kt Lw Li Lx Df Al
attribute [local go_sem] Oper.semAt_some

/-- a region of a function, by its number, in the bodies of loops over iterators too -/
def findG (n : Nat) : Code → Option Code
  | .seq a b => (findG n a).or (findG n b)
  | .block _ b => findG n b
  | .loop b => findG n b
  | .cond _ a b => (findG n a).or (findG n b)
  | .rangeFunc _ _ a b => (findG n a).or (findG n b)
  | .region m ops dr => if m = n then some (.region m ops dr) else none
  | _ => none
/-- where an operation's value lies -/
def slE (k : Nat) : Nat := [18, 19, 20, 21, 22, 23, 24, 25, 26, 27, 17, 28, 29, 11, 99, 12].getD k 0
theorem slE_ne : ∀ j, j < 16 → ∀ k, k < 16 → j ≠ k → slE j ≠ slE k := by decide
def updE (v : Nat → Value) (k : Nat) (x : Value) : Nat → Value := fun j => if j = k then x else v j
theorem updE_same (v : Nat → Value) (k : Nat) (x : Value) : updE v k x k = x := if_pos rfl
theorem updE_other (v : Nat → Value) (k : Nat) (x : Value) (j : Nat) (h : j ≠ k) : updE v k x j = v j := if_neg h
/-- what holds of an operation's value once it is done -/
def PhiE (p : Bs) (so sa sb ho ha hb tp hr cl : Value) : Nat → Value → Prop
  | 0, v => v = so
  | 1, v => v = .string ⟨p.toArray⟩
  | 2, v => v = ho
  | 3, v => v = sa
  | 4, v => v = .string ⟨p.toArray⟩
  | 5, v => v = ha
  | 6, v => v = sb
  | 7, v => v = .string ⟨p.toArray⟩
  | 8, v => v = hb
  | 9, v => v = tp
  | 10, v => v = tp
  | 11, v => v = hr
  | 12, v => v = cl
  | 15, v => v = cl
  | _, _ => True
theorem repE_false (n k : Nat) : (Array.replicate n false).getD k false = false := by
  unfold Array.getD
  split
  · simp
  · rfl
/-- what holds of all that is done so far -/
structure DnE (p : Bs) (so sa sb ho ha hb tp cl : Value) (r1 : Bs) (r2 : Bool) (W : World) (listed : Array Bool) (v : Nat → Value) (w : World) : Prop where
  low : Below W.heap.size W w
  phi : ∀ k, k < 16 → k ≠ 13 → k ≠ 14 → listed.getD k false = true → PhiE p so sa sb ho ha hb tp (.agg #[.bool r2, .string ⟨r1.toArray⟩]) cl k (v (slE k))
  ord : listed.getD 14 false = true → listed.getD 13 false = true
  al : listed.getD 13 false = true → ∃ g x y, v 11 = .pointer (some ⟨g, 0, none⟩) ∧ W.heap.size ≤ g ∧ Row w g tHad [x, y]
  st : listed.getD 14 false = true → ∃ g, v 11 = .pointer (some ⟨g, 0, none⟩) ∧ W.heap.size ≤ g ∧ Row w g tHad [.bool r2, .string ⟨r1.toArray⟩]
section
variable {p : Bs} {so sa sb ho ha hb tp cl : Value} {r1 : Bs} {r2 : Bool} {W : World} {listed : Array Bool} {v : Nat → Value} {w : World}
theorem DnE.step (h : DnE p so sa sb ho ha hb tp cl r1 r2 W listed v w) (k : Nat) (hk : k < 16) (h13 : k ≠ 13) (h14 : k ≠ 14) {nv : Value} {w' : World} (hbw : Below w.heap.size w w')
    (hn : PhiE p so sa sb ho ha hb tp (.agg #[.bool r2, .string ⟨r1.toArray⟩]) cl k nv) : DnE p so sa sb ho ha hb tp cl r1 r2 W (listed.setIfInBounds k true) (updE v (slE k) nv) w' := by
  have h11 : (11 : Nat) ≠ slE k := fun e => slE_ne 13 (by omega) k hk (Ne.symm h13) (by rw [← e]; rfl)
  refine ⟨h.low.trans (hbw.mono h.low.size), fun j hj h1 h2 hl => ?_, fun hl => ?_, fun hl => ?_, fun hl => ?_⟩
  · by_cases e : j = k
    · subst e; rw [updE_same]; exact hn
    · rw [updE_other _ _ _ _ (slE_ne j hj k hk e)]
      rw [getD_set_ne false (fun h => e h.symm)] at hl
      exact h.phi j hj h1 h2 hl
  · rw [getD_set_ne false (by omega)] at hl ⊢
    exact h.ord hl
  · rw [getD_set_ne false (by omega)] at hl
    obtain ⟨g, x, y, e, hg, hr⟩ := h.al hl
    exact ⟨g, x, y, by rw [updE_other _ _ _ _ h11]; exact e, hg, hr.below hbw hr.lt⟩
  · rw [getD_set_ne false (by omega)] at hl
    obtain ⟨g, e, hg, hr⟩ := h.st hl
    exact ⟨g, by rw [updE_other _ _ _ _ h11]; exact e, hg, hr.below hbw hr.lt⟩
theorem DnE.new (h : DnE p so sa sb ho ha hb tp cl r1 r2 W listed v w) (hs : 13 < listed.size) (hnl : listed.getD 13 false = false) :
    DnE p so sa sb ho ha hb tp cl r1 r2 W (listed.setIfInBounds 13 true) (updE v 11 (.pointer (some ⟨w.heap.size, 0, none⟩))) (w.alloc (.cells #[.bool false, .string ⟨#[]⟩] tHad)) := by
  refine ⟨h.low.alloc h.low.size _, fun j hj h1 h2 hl => ?_, fun hl => ?_, fun _ => ?_, fun hl => ?_⟩
  · rw [updE_other _ _ _ _ (fun e => slE_ne j hj 13 (by omega) h1 (by rw [e]; rfl))]
    rw [getD_set_ne false (by omega)] at hl
    exact h.phi j hj h1 h2 hl
  · simp [hs]
  · exact ⟨w.heap.size, _, _, updE_same _ _ _, h.low.size, Row.fresh w tHad _⟩
  · rw [getD_set_ne false (by omega)] at hl
    rw [h.ord hl] at hnl
    cases hnl
theorem DnE.put (h : DnE p so sa sb ho ha hb tp cl r1 r2 W listed v w) {g : Nat} (hv : v 11 = .pointer (some ⟨g, 0, none⟩)) (hl13 : listed.getD 13 false = true) :
    DnE p so sa sb ho ha hb tp cl r1 r2 W (listed.setIfInBounds 14 true) v ((w.setCell ⟨g, 0, none⟩ (.bool r2)).setCell ⟨g, 1, none⟩ (.string ⟨r1.toArray⟩)) := by
  obtain ⟨g', x, y, e, hg, hr⟩ := h.al hl13
  rw [hv] at e
  injection e with e
  injection e with e
  injection e with e
  subst e
  have hrow := (hr.put 0 (.bool r2)).put 1 (.string ⟨r1.toArray⟩)
  refine ⟨below_put (below_put h.low hg _) hg _, fun j hj h1 h2 hl => ?_, fun hl => ?_, fun _ => ⟨g, _, _, hv, hg, hrow⟩, fun _ => ⟨g, hv, hg, hrow⟩⟩
  · rw [getD_set_ne false (fun e => h2 e.symm)] at hl
    exact h.phi j hj h1 h2 hl
  · rw [getD_set_ne false (by omega)]
    exact hl13
end
set_option maxRecDepth 100000 in
set_option maxHeartbeats 8000000 in
theorem round5_any (l n : Nat) (hn : 1 ≤ n) {B : Code} (hB : B = (findG 5 (Tryz.f10.body.getD .skip)).getD .skip) {Q : Exit → Act → World → Prop} (W : World) (p : Bs) (b3 b4 b5 : Nat) (Ao Aa Ab : Option Addr) (No Na Nb co ca cb : Nat) (ho ha hb : Value) (r1 : Bs) (r2 cl : Bool)
    (x0 x1 x2 x6 x7 x8 x9 x13 x14 x15 x16 x30 x31 x32 x33 x34 x35 x36 x37 x38 x39 x40 x41 x42 x43 x44 x45 x46 x47 x48 x49 x50 : Value)
    (h3 : ∀ wz, Below W.heap.size W wz → wz.cell? ⟨b3, 0, none⟩ = some (.slice Ao No co)) (h4 : ∀ wz, Below W.heap.size W wz → wz.cell? ⟨b4, 0, none⟩ = some (.slice Aa Na ca)) (h5 : ∀ wz, Below W.heap.size W wz → wz.cell? ⟨b5, 0, none⟩ = some (.slice Ab Nb cb))
    (cO : ∀ wz, Below W.heap.size W wz → Calls Tryz.prog 26 #[.slice Ao No co, .string ⟨p.toArray⟩] wz fun y w' => y = .returned ho ∧ Below wz.heap.size wz w')
    (cA : ∀ wz, Below W.heap.size W wz → Calls Tryz.prog 26 #[.slice Aa Na ca, .string ⟨p.toArray⟩] wz fun y w' => y = .returned ha ∧ Below wz.heap.size wz w')
    (cB : ∀ wz, Below W.heap.size W wz → Calls Tryz.prog 26 #[.slice Ab Nb cb, .string ⟨p.toArray⟩] wz fun y w' => y = .returned hb ∧ Below wz.heap.size wz w')
    (cT : ∀ wz, Below W.heap.size W wz → Calls Tryz.prog 25 #[ho, ha, hb] wz fun y w' => y = .returned (.tuple #[.agg #[.bool r2, .string ⟨r1.toArray⟩], .bool cl]) ∧ Below wz.heap.size wz w')
    (hQ : ∀ (v : Nat → Value) (g : Nat) (wz : World), v 11 = .pointer (some ⟨g, 0, none⟩) → v 12 = .bool cl → W.heap.size ≤ g → Row wz g tHad [.bool r2, .string ⟨r1.toArray⟩] → Below W.heap.size W wz → Q .normal { tmps := List.toArray (x0 :: x1 :: x2 :: .pointer (some ⟨b3, 0, none⟩) :: .pointer (some ⟨b4, 0, none⟩) :: .pointer (some ⟨b5, 0, none⟩) :: x6 :: x7 :: x8 :: x9 :: .string ⟨p.toArray⟩ :: v 11 :: v 12 :: x13 :: x14 :: x15 :: x16 :: v 17 :: v 18 :: v 19 :: v 20 :: v 21 :: v 22 :: v 23 :: v 24 :: v 25 :: v 26 :: v 27 :: v 28 :: v 29 :: x30 :: x31 :: x32 :: x33 :: x34 :: x35 :: x36 :: x37 :: x38 :: x39 :: x40 :: x41 :: x42 :: x43 :: x44 :: x45 :: x46 :: x47 :: x48 :: x49 :: x50 :: []), defers := [] } wz) :
    B.wpIn (Fence.wide.inRound l) n Tryz.prog Q { tmps := List.toArray (x0 :: x1 :: x2 :: .pointer (some ⟨b3, 0, none⟩) :: .pointer (some ⟨b4, 0, none⟩) :: .pointer (some ⟨b5, 0, none⟩) :: x6 :: x7 :: x8 :: x9 :: .string ⟨p.toArray⟩ :: undef :: undef :: x13 :: x14 :: x15 :: x16 :: undef :: undef :: undef :: undef :: undef :: undef :: undef :: undef :: undef :: undef :: undef :: undef :: undef :: x30 :: x31 :: x32 :: x33 :: x34 :: x35 :: x36 :: x37 :: x38 :: x39 :: x40 :: x41 :: x42 :: x43 :: x44 :: x45 :: x46 :: x47 :: x48 :: x49 :: x50 :: []), defers := [] } W := by
  have HK := hide hQ
  have H3 := hide h3
  have H4 := hide h4
  have H5 := hide h5
  have CO := hide cO
  have CA := hide cA
  have CB := hide cB
  have CT := hide cT
  clear hQ h3 h4 h5 cO cA cB cT
  rw [hB]
  refine Rv.wpIn_region_inv (fun listed a' w' => ∃ v, a' = { tmps := List.toArray (x0 :: x1 :: x2 :: .pointer (some ⟨b3, 0, none⟩) :: .pointer (some ⟨b4, 0, none⟩) :: .pointer (some ⟨b5, 0, none⟩) :: x6 :: x7 :: x8 :: x9 :: .string ⟨p.toArray⟩ :: v 11 :: v 12 :: x13 :: x14 :: x15 :: x16 :: v 17 :: v 18 :: v 19 :: v 20 :: v 21 :: v 22 :: v 23 :: v 24 :: v 25 :: v 26 :: v 27 :: v 28 :: v 29 :: x30 :: x31 :: x32 :: x33 :: x34 :: x35 :: x36 :: x37 :: x38 :: x39 :: x40 :: x41 :: x42 :: x43 :: x44 :: x45 :: x46 :: x47 :: x48 :: x49 :: x50 :: []), defers := [] } ∧ DnE p (.slice Ao No co) (.slice Aa Na ca) (.slice Ab Nb cb) ho ha hb (.tuple #[.agg #[.bool r2, .string ⟨r1.toArray⟩], .bool cl]) (.bool cl) r1 r2 W listed v w') (by kernel_rfl) (by kernel_rfl) ?start ?step ?fin
  case start =>
    refine ⟨fun _ => undef, rfl, ⟨(Below.refl _ W).drew, fun k _ _ _ hl => ?_, fun hl => ?_, fun hl => ?_, fun hl => ?_⟩⟩
    · rw [repE_false] at hl; cases hl
    · rw [repE_false] at hl; cases hl
    · rw [repE_false] at hl; cases hl
    · rw [repE_false] at hl; cases hl
  case fin =>
    rintro listed a' w' ⟨v, rfl, hd⟩ hl
    obtain ⟨g, e, hg, hr⟩ := hd.st (hl 14 (by simp))
    exact HK.out v g w' e (hd.phi 15 (by omega) (by omega) (by omega) (hl 15 (by simp))) hg hr hd.low
  case step =>
    rintro listed a' w' i op ⟨v, rfl, hd⟩ hop hsz hnl hdep K hK
    have hi : i < 16 := by have := (List.getElem?_eq_some_iff.1 hop).1; simpa using this
    have hsz2 : 13 < listed.size := by rw [hsz]; simp
    have HKK := hide (show ∀ k nv wz, k < 16 → k ≠ 13 → k ≠ 14 → i = k → Below w'.heap.size w' wz → PhiE p (.slice Ao No co) (.slice Aa Na ca) (.slice Ab Nb cb) ho ha hb (.tuple #[.agg #[.bool r2, .string ⟨r1.toArray⟩], .bool cl]) (.agg #[.bool r2, .string ⟨r1.toArray⟩]) (.bool cl) k nv → K { tmps := List.toArray (x0 :: x1 :: x2 :: .pointer (some ⟨b3, 0, none⟩) :: .pointer (some ⟨b4, 0, none⟩) :: .pointer (some ⟨b5, 0, none⟩) :: x6 :: x7 :: x8 :: x9 :: .string ⟨p.toArray⟩ :: updE v (slE k) nv 11 :: updE v (slE k) nv 12 :: x13 :: x14 :: x15 :: x16 :: updE v (slE k) nv 17 :: updE v (slE k) nv 18 :: updE v (slE k) nv 19 :: updE v (slE k) nv 20 :: updE v (slE k) nv 21 :: updE v (slE k) nv 22 :: updE v (slE k) nv 23 :: updE v (slE k) nv 24 :: updE v (slE k) nv 25 :: updE v (slE k) nv 26 :: updE v (slE k) nv 27 :: updE v (slE k) nv 28 :: updE v (slE k) nv 29 :: x30 :: x31 :: x32 :: x33 :: x34 :: x35 :: x36 :: x37 :: x38 :: x39 :: x40 :: x41 :: x42 :: x43 :: x44 :: x45 :: x46 :: x47 :: x48 :: x49 :: x50 :: []), defers := [] } wz from
      fun k nv wz hk h13 h14 hik hbz hph => hK _ _ ⟨_, rfl, by rw [hik]; exact hd.step k hk h13 h14 hbz hph⟩)
    have Hd := hide hd
    have Hdep := hide hdep
    have HhK := hide hK
    have Hnl := hide hnl
    have Hsz := hide hsz2
    clear hd hdep hK hnl hsz hsz2
    have hcase : i = 0 ∨ i = 1 ∨ i = 2 ∨ i = 3 ∨ i = 4 ∨ i = 5 ∨ i = 6 ∨ i = 7 ∨ i = 8 ∨ i = 9 ∨ i = 10 ∨ i = 11 ∨ i = 12 ∨ i = 13 ∨ i = 14 ∨ i = 15 := by omega
    rcases hcase with rfl | rfl | rfl | rfl | rfl | rfl | rfl | rfl | rfl | rfl | rfl | rfl | rfl | rfl | rfl | rfl
    · simp only [List.getElem?_cons_zero, Option.some.injEq] at hop
      subst hop
      have c3 := H3.out w' Hd.out.low
      go_simp
      have hk := HKK.out 0 (.slice Ao No co) _ (by omega) (by omega) (by omega) rfl (Below.refl _ _) rfl
      simp only [slE, updE, List.getD_cons_zero, Nat.reduceEqDiff, ↓reduceIte] at hk
      exact hk
    · simp only [List.getElem?_cons_zero, List.getElem?_cons_succ, Option.some.injEq] at hop
      subst hop
      go_simp
      have hk := HKK.out 1 (.string ⟨p.toArray⟩) _ (by omega) (by omega) (by omega) rfl (Below.refl _ _) rfl
      simp only [slE, updE, List.getD_cons_zero, List.getD_cons_succ, Nat.reduceEqDiff, ↓reduceIte] at hk
      exact hk
    · simp only [List.getElem?_cons_zero, List.getElem?_cons_succ, Option.some.injEq] at hop
      subst hop
      have e1 : v 18 = .slice Ao No co := Hd.out.phi 0 (by omega) (by omega) (by omega) (Hdep.out 0 (by kernel_rfl))
      have e2 : v 19 = .string ⟨p.toArray⟩ := Hd.out.phi 1 (by omega) (by omega) (by omega) (Hdep.out 1 (by kernel_rfl))
      have hc := CO.out w' Hd.out.low
      go_simp
      refine ⟨trivial, ?_⟩
      refine (CallsIn.inRound l (callsIn_wide.2 hc)).mono ?_
      rintro y w2 ⟨rfl, hb2⟩
      have hk := HKK.out 2 (ho) _ (by omega) (by omega) (by omega) rfl hb2 rfl
      simp only [slE, updE, List.getD_cons_zero, List.getD_cons_succ, Nat.reduceEqDiff, ↓reduceIte, e1, e2] at hk
      exact hk
    · simp only [List.getElem?_cons_zero, List.getElem?_cons_succ, Option.some.injEq] at hop
      subst hop
      have c3 := H4.out w' Hd.out.low
      go_simp
      have hk := HKK.out 3 (.slice Aa Na ca) _ (by omega) (by omega) (by omega) rfl (Below.refl _ _) rfl
      simp only [slE, updE, List.getD_cons_zero, List.getD_cons_succ, Nat.reduceEqDiff, ↓reduceIte] at hk
      exact hk
    · simp only [List.getElem?_cons_zero, List.getElem?_cons_succ, Option.some.injEq] at hop
      subst hop
      go_simp
      have hk := HKK.out 4 (.string ⟨p.toArray⟩) _ (by omega) (by omega) (by omega) rfl (Below.refl _ _) rfl
      simp only [slE, updE, List.getD_cons_zero, List.getD_cons_succ, Nat.reduceEqDiff, ↓reduceIte] at hk
      exact hk
    · simp only [List.getElem?_cons_zero, List.getElem?_cons_succ, Option.some.injEq] at hop
      subst hop
      have e1 : v 21 = .slice Aa Na ca := Hd.out.phi 3 (by omega) (by omega) (by omega) (Hdep.out 3 (by kernel_rfl))
      have e2 : v 22 = .string ⟨p.toArray⟩ := Hd.out.phi 4 (by omega) (by omega) (by omega) (Hdep.out 4 (by kernel_rfl))
      have hc := CA.out w' Hd.out.low
      go_simp
      refine ⟨trivial, ?_⟩
      refine (CallsIn.inRound l (callsIn_wide.2 hc)).mono ?_
      rintro y w2 ⟨rfl, hb2⟩
      have hk := HKK.out 5 (ha) _ (by omega) (by omega) (by omega) rfl hb2 rfl
      simp only [slE, updE, List.getD_cons_zero, List.getD_cons_succ, Nat.reduceEqDiff, ↓reduceIte, e1, e2] at hk
      exact hk
    · simp only [List.getElem?_cons_zero, List.getElem?_cons_succ, Option.some.injEq] at hop
      subst hop
      have c3 := H5.out w' Hd.out.low
      go_simp
      have hk := HKK.out 6 (.slice Ab Nb cb) _ (by omega) (by omega) (by omega) rfl (Below.refl _ _) rfl
      simp only [slE, updE, List.getD_cons_zero, List.getD_cons_succ, Nat.reduceEqDiff, ↓reduceIte] at hk
      exact hk
    · simp only [List.getElem?_cons_zero, List.getElem?_cons_succ, Option.some.injEq] at hop
      subst hop
      go_simp
      have hk := HKK.out 7 (.string ⟨p.toArray⟩) _ (by omega) (by omega) (by omega) rfl (Below.refl _ _) rfl
      simp only [slE, updE, List.getD_cons_zero, List.getD_cons_succ, Nat.reduceEqDiff, ↓reduceIte] at hk
      exact hk
    · simp only [List.getElem?_cons_zero, List.getElem?_cons_succ, Option.some.injEq] at hop
      subst hop
      have e1 : v 24 = .slice Ab Nb cb := Hd.out.phi 6 (by omega) (by omega) (by omega) (Hdep.out 6 (by kernel_rfl))
      have e2 : v 25 = .string ⟨p.toArray⟩ := Hd.out.phi 7 (by omega) (by omega) (by omega) (Hdep.out 7 (by kernel_rfl))
      have hc := CB.out w' Hd.out.low
      go_simp
      refine ⟨trivial, ?_⟩
      refine (CallsIn.inRound l (callsIn_wide.2 hc)).mono ?_
      rintro y w2 ⟨rfl, hb2⟩
      have hk := HKK.out 8 (hb) _ (by omega) (by omega) (by omega) rfl hb2 rfl
      simp only [slE, updE, List.getD_cons_zero, List.getD_cons_succ, Nat.reduceEqDiff, ↓reduceIte, e1, e2] at hk
      exact hk
    · simp only [List.getElem?_cons_zero, List.getElem?_cons_succ, Option.some.injEq] at hop
      subst hop
      have e1 : v 20 = ho := Hd.out.phi 2 (by omega) (by omega) (by omega) (Hdep.out 2 (by kernel_rfl))
      have e2 : v 23 = ha := Hd.out.phi 5 (by omega) (by omega) (by omega) (Hdep.out 5 (by kernel_rfl))
      have e3 : v 26 = hb := Hd.out.phi 8 (by omega) (by omega) (by omega) (Hdep.out 8 (by kernel_rfl))
      have hc := CT.out w' Hd.out.low
      go_simp
      refine ⟨trivial, ?_⟩
      refine (CallsIn.inRound l (callsIn_wide.2 hc)).mono ?_
      rintro y w2 ⟨rfl, hb2⟩
      have hk := HKK.out 9 (.tuple #[.agg #[.bool r2, .string ⟨r1.toArray⟩], .bool cl]) _ (by omega) (by omega) (by omega) rfl hb2 rfl
      simp only [slE, updE, List.getD_cons_zero, List.getD_cons_succ, Nat.reduceEqDiff, ↓reduceIte, e1, e2, e3] at hk
      exact hk
    · simp only [List.getElem?_cons_zero, List.getElem?_cons_succ, Option.some.injEq] at hop
      subst hop
      have e1 : v 27 = .tuple #[.agg #[.bool r2, .string ⟨r1.toArray⟩], .bool cl] := Hd.out.phi 9 (by omega) (by omega) (by omega) (Hdep.out 9 (by kernel_rfl))
      go_simp
      have hk := HKK.out 10 (.tuple #[.agg #[.bool r2, .string ⟨r1.toArray⟩], .bool cl]) _ (by omega) (by omega) (by omega) rfl (Below.refl _ _) rfl
      simp only [slE, updE, List.getD_cons_zero, List.getD_cons_succ, Nat.reduceEqDiff, ↓reduceIte, e1] at hk
      exact hk
    · simp only [List.getElem?_cons_zero, List.getElem?_cons_succ, Option.some.injEq] at hop
      subst hop
      have e1 : v 17 = .tuple #[.agg #[.bool r2, .string ⟨r1.toArray⟩], .bool cl] := Hd.out.phi 10 (by omega) (by omega) (by omega) (Hdep.out 10 (by kernel_rfl))
      go_simp
      have hk := HKK.out 11 (.agg #[.bool r2, .string ⟨r1.toArray⟩]) _ (by omega) (by omega) (by omega) rfl (Below.refl _ _) rfl
      simp only [slE, updE, List.getD_cons_zero, List.getD_cons_succ, Nat.reduceEqDiff, ↓reduceIte, e1] at hk
      exact hk
    · simp only [List.getElem?_cons_zero, List.getElem?_cons_succ, Option.some.injEq] at hop
      subst hop
      have e1 : v 17 = .tuple #[.agg #[.bool r2, .string ⟨r1.toArray⟩], .bool cl] := Hd.out.phi 10 (by omega) (by omega) (by omega) (Hdep.out 10 (by kernel_rfl))
      go_simp
      have hk := HKK.out 12 (.bool cl) _ (by omega) (by omega) (by omega) rfl (Below.refl _ _) rfl
      simp only [slE, updE, List.getD_cons_zero, List.getD_cons_succ, Nat.reduceEqDiff, ↓reduceIte, e1] at hk
      exact hk
    · simp only [List.getElem?_cons_zero, List.getElem?_cons_succ, Option.some.injEq] at hop
      subst hop
      have hnew := Hd.out.new Hsz.out Hnl.out
      have hk := HhK.out { tmps := List.toArray (x0 :: x1 :: x2 :: .pointer (some ⟨b3, 0, none⟩) :: .pointer (some ⟨b4, 0, none⟩) :: .pointer (some ⟨b5, 0, none⟩) :: x6 :: x7 :: x8 :: x9 :: .string ⟨p.toArray⟩ :: updE v 11 (.pointer (some ⟨w'.heap.size, 0, none⟩)) 11 :: updE v 11 (.pointer (some ⟨w'.heap.size, 0, none⟩)) 12 :: x13 :: x14 :: x15 :: x16 :: updE v 11 (.pointer (some ⟨w'.heap.size, 0, none⟩)) 17 :: updE v 11 (.pointer (some ⟨w'.heap.size, 0, none⟩)) 18 :: updE v 11 (.pointer (some ⟨w'.heap.size, 0, none⟩)) 19 :: updE v 11 (.pointer (some ⟨w'.heap.size, 0, none⟩)) 20 :: updE v 11 (.pointer (some ⟨w'.heap.size, 0, none⟩)) 21 :: updE v 11 (.pointer (some ⟨w'.heap.size, 0, none⟩)) 22 :: updE v 11 (.pointer (some ⟨w'.heap.size, 0, none⟩)) 23 :: updE v 11 (.pointer (some ⟨w'.heap.size, 0, none⟩)) 24 :: updE v 11 (.pointer (some ⟨w'.heap.size, 0, none⟩)) 25 :: updE v 11 (.pointer (some ⟨w'.heap.size, 0, none⟩)) 26 :: updE v 11 (.pointer (some ⟨w'.heap.size, 0, none⟩)) 27 :: updE v 11 (.pointer (some ⟨w'.heap.size, 0, none⟩)) 28 :: updE v 11 (.pointer (some ⟨w'.heap.size, 0, none⟩)) 29 :: x30 :: x31 :: x32 :: x33 :: x34 :: x35 :: x36 :: x37 :: x38 :: x39 :: x40 :: x41 :: x42 :: x43 :: x44 :: x45 :: x46 :: x47 :: x48 :: x49 :: x50 :: []), defers := [] } _ ⟨_, rfl, hnew⟩
      go_simp
      simp only [updE, Nat.reduceEqDiff, ↓reduceIte] at hk
      exact hk
    · simp only [List.getElem?_cons_zero, List.getElem?_cons_succ, Option.some.injEq] at hop
      subst hop
      have e1 : v 28 = .agg #[.bool r2, .string ⟨r1.toArray⟩] := Hd.out.phi 11 (by omega) (by omega) (by omega) (Hdep.out 11 (by kernel_rfl))
      have hl13 := Hdep.out 13 (by kernel_rfl)
      obtain ⟨g, x, y, e2, _, hr⟩ := Hd.out.al hl13
      have c0 := hr.cell 0
      have c1 := hr.cell 1
      have f0 := hr.free 0
      have f1 := hr.free 1
      simp only [List.getElem?_cons_zero, List.getElem?_cons_succ] at c0 c1
      have hk := HhK.out { tmps := List.toArray (x0 :: x1 :: x2 :: .pointer (some ⟨b3, 0, none⟩) :: .pointer (some ⟨b4, 0, none⟩) :: .pointer (some ⟨b5, 0, none⟩) :: x6 :: x7 :: x8 :: x9 :: .string ⟨p.toArray⟩ :: v 11 :: v 12 :: x13 :: x14 :: x15 :: x16 :: v 17 :: v 18 :: v 19 :: v 20 :: v 21 :: v 22 :: v 23 :: v 24 :: v 25 :: v 26 :: v 27 :: v 28 :: v 29 :: x30 :: x31 :: x32 :: x33 :: x34 :: x35 :: x36 :: x37 :: x38 :: x39 :: x40 :: x41 :: x42 :: x43 :: x44 :: x45 :: x46 :: x47 :: x48 :: x49 :: x50 :: []), defers := [] } _ ⟨_, rfl, Hd.out.put e2 hl13⟩
      simp only [e1, e2] at hk
      clear hr
      go_simp
      exact hk
    · simp only [List.getElem?_cons_zero, List.getElem?_cons_succ, Option.some.injEq] at hop
      subst hop
      have e1 : v 29 = .bool cl := Hd.out.phi 12 (by omega) (by omega) (by omega) (Hdep.out 12 (by kernel_rfl))
      go_simp
      have hk := HKK.out 15 (.bool cl) _ (by omega) (by omega) (by omega) rfl (Below.refl _ _) rfl
      simp only [slE, updE, List.getD_cons_zero, List.getD_cons_succ, Nat.reduceEqDiff, ↓reduceIte, e1] at hk
      exact hk
end Go.Proofs.YtahcokfoifdlmaaGreatDoor.Tr
