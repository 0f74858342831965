/-
  A heap of ids, on lists: what goes up, and down. No program is named here.
-/
import Derived.Test.YtplmcpdlommmaaaQDC
import Derived.RegionTactic
import Derived.BigQuiet
import Derived.Test.YtplmcpdlommmaaaQXE
namespace Go.Proofs.Ytplmcpdlommmaaa.Dq
open Go Tr

def swp (l : List Bs) (i j : Nat) : List Bs := (l.set i (l.getD j [])).set j (l.getD i [])
theorem swp_len (l : List Bs) (i j : Nat) : (swp l i j).length = l.length := by simp [swp]
theorem swp_at {l : List Bs} {i j : Nat} (hi : i < l.length) (hj : j < l.length) (k : Nat) : (swp l i j).getD k [] = if k = j then l.getD i [] else if k = i then l.getD j [] else l.getD k [] := by
  unfold swp
  simp only [List.getD_eq_getElem?_getD, List.getElem?_set, List.length_set]
  by_cases h1 : j = k
  · subst h1; simp [hj]
  · by_cases h2 : i = k
    · subst h2; simp [hi, h1, Ne.symm h1]
    · simp [h1, h2, Ne.symm h1, Ne.symm h2]
theorem swp_perm {l : List Bs} {i j : Nat} (hi : i < l.length) (hj : j < l.length) : (swp l i j).Perm l := by
  unfold swp
  rw [List.getD_eq_getElem?_getD, List.getD_eq_getElem?_getD, List.getElem?_eq_getElem hi, List.getElem?_eq_getElem hj]
  exact List.set_set_perm hi hj
theorem nlt_trans {a b c : Bs} (h1 : lt b a = false) (h2 : lt c b = false) : lt c a = false := by
  rw [Bool.eq_false_iff]
  intro h
  rcases lt_tri b a with k | k | k
  · rw [k] at h1; cases h1
  · subst k; rw [h] at h2; cases h2
  · rw [lt_trans h k] at h2; cases h2
abbrev par (k : Nat) : Nat := (k - 1) / 2
/-- of the first n none is less than its parent -/
def Hp (l : List Bs) (n : Nat) : Prop := ∀ k, 0 < k → k < n → lt (l.getD k []) (l.getD (par k) []) = false
theorem Hp.root {l : List Bs} {n : Nat} (h : Hp l n) : ∀ k, k < n → lt (l.getD k []) (l.getD 0 []) = false := by
  intro k
  induction k using Nat.strongRecOn with
  | _ k ih =>
    intro hk
    by_cases h0 : k = 0
    · subst h0; exact lt_irr _
    · have hp : par k < k := by show (k - 1) / 2 < k; omega
      exact nlt_trans (ih (par k) hp (by omega)) (h k (by omega) hk)
structure UpAt (l : List Bs) (j : Nat) : Prop where
  else_ : ∀ k, 0 < k → k < l.length → k ≠ j → lt (l.getD k []) (l.getD (par k) []) = false
  over : 0 < j → ∀ k, 0 < k → k < l.length → par k = j → lt (l.getD k []) (l.getD (par j) []) = false
theorem getD_snoc (l : List Bs) (x : Bs) (k : Nat) : (l ++ [x]).getD k [] = if k < l.length then l.getD k [] else if k = l.length then x else [] := by
  simp only [List.getD_eq_getElem?_getD]
  by_cases h : k < l.length
  · rw [List.getElem?_append_left h, if_pos h]
  · rw [List.getElem?_append_right (by omega), if_neg h]
    by_cases h2 : k = l.length
    · subst h2; simp
    · rw [if_neg h2, List.getElem?_eq_none (by simp; omega)]; rfl
theorem UpAt.start {l : List Bs} (h : Hp l l.length) (x : Bs) : UpAt (l ++ [x]) l.length := by
  refine ⟨fun k h0 hk hne => ?_, fun h0 k h1 hk hp => ?_⟩
  · rw [List.length_append, List.length_singleton] at hk
    have hkl : k < l.length := by omega
    rw [getD_snoc, getD_snoc, if_pos hkl, if_pos (by show (k - 1) / 2 < _; omega)]
    exact h k h0 hkl
  · rw [List.length_append, List.length_singleton] at hk
    have : (k - 1) / 2 = l.length := hp
    omega
theorem UpAt.root {l : List Bs} (h : UpAt l 0) : Hp l l.length := fun k h0 hk => h.else_ k h0 hk (by omega)
theorem UpAt.stop {l : List Bs} {j : Nat} (h : UpAt l j) (hs : lt (l.getD j []) (l.getD (par j) []) = false) : Hp l l.length := fun k h0 hk => by
  by_cases e : k = j
  · subst e; exact hs
  · exact h.else_ k h0 hk e
theorem UpAt.step {l : List Bs} {j : Nat} (h : UpAt l j) (h0 : 0 < j) (hj : j < l.length) (hs : lt (l.getD j []) (l.getD (par j) []) = true) : UpAt (swp l (par j) j) (par j) := by
  have hpl : par j < l.length := by show (j - 1) / 2 < _; omega
  have hpj : par j ≠ j := by show (j - 1) / 2 ≠ _; omega
  have hw := swp_at hpl hj
  refine ⟨fun k k0 hk hne => ?_, fun p0 k k0 hk hp => ?_⟩
  · rw [swp_len] at hk
    rw [hw, hw]
    by_cases e1 : k = j
    · subst e1
      rw [if_pos rfl, if_neg hpj, if_pos rfl]
      exact lt_asymm hs
    · rw [if_neg e1, if_neg hne]
      by_cases e2 : par k = j
      · rw [if_pos e2]
        exact h.over h0 k k0 hk e2
      · rw [if_neg e2]
        by_cases e3 : par k = par j
        · rw [if_pos e3]
          have := h.else_ k k0 hk e1
          rw [e3] at this
          exact nlt_trans (lt_asymm hs) this
        · rw [if_neg e3]
          exact h.else_ k k0 hk e1
  · rw [swp_len] at hk
    rw [hw, hw]
    have hpp : par (par j) ≠ par j := by show ((j - 1) / 2 - 1) / 2 ≠ (j - 1) / 2; have : 0 < (j - 1) / 2 := p0; omega
    have hpp2 : par (par j) ≠ j := by show ((j - 1) / 2 - 1) / 2 ≠ j; omega
    rw [if_neg hpp2, if_neg hpp]
    have hup := h.else_ (par j) p0 hpl hpj
    by_cases e1 : k = j
    · rw [if_pos e1]; exact hup
    · have e2 : k ≠ par j := fun e => by rw [e] at hp; exact hpp hp
      rw [if_neg e1, if_neg e2]
      have := h.else_ k k0 hk e1
      rw [hp] at this
      exact nlt_trans hup this
structure DownAt (l : List Bs) (i n : Nat) : Prop where
  else_ : ∀ k, 0 < k → k < n → par k ≠ i → lt (l.getD k []) (l.getD (par k) []) = false
  over : 0 < i → ∀ k, 0 < k → k < n → par k = i → lt (l.getD k []) (l.getD (par i) []) = false
/-- the lesser one of the two below -/
structure Lesser (l : List Bs) (i j n : Nat) : Prop where
  pos : 0 < j
  lt : j < n
  par : par j = i
  low : ∀ k, 0 < k → k < n → Dq.par k = i → Tr.lt (l.getD k []) (l.getD j []) = false
theorem DownAt.start {l : List Bs} {n : Nat} (h : Hp l (n + 1)) (hl : l.length = n + 1) : DownAt (swp l 0 n) 0 n := by
  have hw := swp_at (l := l) (i := 0) (j := n) (by omega) (by omega)
  refine ⟨fun k k0 hk hp => ?_, fun h0 => absurd h0 (by omega)⟩
  have hp' : (k - 1) / 2 ≠ 0 := hp
  rw [hw, hw, if_neg (by omega), if_neg (by omega), if_neg (by show (k - 1) / 2 ≠ n; omega), if_neg hp]
  exact h k k0 (by omega)
theorem DownAt.none {l : List Bs} {i n : Nat} (h : DownAt l i n) (hn : n ≤ 2 * i + 1) : Hp l n := fun k k0 hk => h.else_ k k0 hk (by show (k - 1) / 2 ≠ i; omega)
theorem DownAt.stop {l : List Bs} {i j n : Nat} (h : DownAt l i n) (hl : Lesser l i j n) (hs : lt (l.getD j []) (l.getD i []) = false) : Hp l n := fun k k0 hk => by
  by_cases e : par k = i
  · rw [e]; exact nlt_trans hs (hl.low k k0 hk e)
  · exact h.else_ k k0 hk e
theorem DownAt.step {l : List Bs} {i j n : Nat} (h : DownAt l i n) (hl : Lesser l i j n) (hn : n ≤ l.length) (hs : lt (l.getD j []) (l.getD i []) = true) : DownAt (swp l i j) j n := by
  obtain ⟨j0, hj, hp, hlow⟩ := hl
  have hp' : (j - 1) / 2 = i := hp
  have hij : i < j := by omega
  have hw := swp_at (l := l) (i := i) (j := j) (by omega) (by omega)
  refine ⟨fun k k0 hk hne => ?_, fun _ k k0 hk hk2 => ?_⟩
  · rw [hw, hw]
    rw [if_neg hne]
    by_cases e1 : k = j
    · subst e1
      rw [if_pos rfl, if_pos hp]
      exact lt_asymm hs
    · rw [if_neg e1]
      by_cases e2 : k = i
      · subst e2
        have hpk : par k ≠ k := by show (k - 1) / 2 ≠ k; omega
        rw [if_pos rfl, if_neg hpk]
        exact h.over k0 j j0 hj hp
      · rw [if_neg e2]
        by_cases e3 : par k = i
        · rw [if_pos e3]; exact hlow k k0 hk e3
        · rw [if_neg e3]; exact h.else_ k k0 hk e3
  · have hk3 : (k - 1) / 2 = j := hk2
    rw [hw, hw, if_neg (by omega), if_neg (by omega), hp, if_neg (by omega), if_pos rfl]
    have := h.else_ k k0 hk (by rw [hk2]; omega)
    rwa [hk2] at this
theorem lesser_left {l : List Bs} {i n : Nat} (h1 : 2 * i + 1 < n) (h2 : 2 * i + 2 < n → lt (l.getD (2 * i + 2) []) (l.getD (2 * i + 1) []) = false) : Lesser l i (2 * i + 1) n := by
  refine ⟨by omega, h1, by show (2 * i + 1 - 1) / 2 = i; omega, fun k k0 hk hp => ?_⟩
  have hp' : (k - 1) / 2 = i := hp
  rcases (by omega : k = 2 * i + 1 ∨ k = 2 * i + 2) with e | e
  · subst e; exact lt_irr _
  · subst e; exact h2 hk
theorem lesser_right {l : List Bs} {i n : Nat} (h1 : 2 * i + 2 < n) (h2 : lt (l.getD (2 * i + 2) []) (l.getD (2 * i + 1) []) = true) : Lesser l i (2 * i + 2) n := by
  refine ⟨by omega, h1, by show (2 * i + 2 - 1) / 2 = i; omega, fun k k0 hk hp => ?_⟩
  have hp' : (k - 1) / 2 = i := hp
  rcases (by omega : k = 2 * i + 1 ∨ k = 2 * i + 2) with e | e
  · subst e; exact lt_asymm h2
  · subst e; exact lt_irr _
/-- what is taken away: the least one -/
theorem heap_pop {l l2 : List Bs} {n : Nat} (hl : l.length = n + 1) (h : Hp l (n + 1)) (hl2 : l2.length = n + 1) (hp : l2.Perm l) (hlast : l2.getD n [] = l.getD 0 []) (h2 : Hp l2 n) :
    Hp (l2.take n) (l2.take n).length ∧ l.Perm (l2.getD n [] :: l2.take n) ∧ ∀ y ∈ l2.take n, lt y (l2.getD n []) = false := by
  have e : l2 = l2.take n ++ [l2.getD n []] := by
    conv => lhs; rw [← List.take_append_drop n l2]
    congr 1
    rw [List.drop_eq_getElem_cons (by omega), List.drop_eq_nil_of_le (by omega), List.getD_eq_getElem?_getD, List.getElem?_eq_getElem (by omega)]
    rfl
  have hper : l.Perm (l2.getD n [] :: l2.take n) := by
    refine hp.symm.trans ?_
    conv => lhs; rw [e]
    exact List.perm_append_comm (l₁ := l2.take n) (l₂ := [l2.getD n []])
  have hlen : (l2.take n).length = n := by rw [List.length_take]; omega
  refine ⟨fun k k0 hk => ?_, hper, fun y hy => ?_⟩
  · rw [hlen] at hk
    have h1 : ∀ k, k < n → (l2.take n).getD k [] = l2.getD k [] := fun k hk => by
      rw [List.getD_eq_getElem?_getD, List.getD_eq_getElem?_getD, List.getElem?_take, if_pos hk]
    rw [h1 k hk, h1 (par k) (by show (k - 1) / 2 < n; omega)]
    exact h2 k k0 hk
  · have hm : y ∈ l := hper.mem_iff.2 (List.mem_cons_of_mem _ hy)
    obtain ⟨k, hk⟩ := List.mem_iff_getElem?.1 hm
    have hkl := (List.getElem?_eq_some_iff.1 hk).1
    have := h.root k (by omega)
    rw [hlast]
    rw [List.getD_eq_getElem?_getD, hk] at this
    exact this
end Go.Proofs.Ytplmcpdlommmaaa.Dq
namespace Go.Proofs.Ytplmcpdlommmaaa.Dq
open Go Go.RowKit Kt Kg Lw Tr

abbrev tRdy : TypeId := 94
theorem OwT.set {w : World} {B g cap n : Nat} {l : List Bs} (h : OwT w B tId (.slice (some ⟨g, 0, none⟩) n cap) l) (i : Nat) (x : Bs) : OwT (w.setCell ⟨g, i, none⟩ (encStr x)) B tId (.slice (some ⟨g, 0, none⟩) n cap) (l.set i x) := by
  refine ⟨by simp [texts_len], ?_⟩
  rcases h.2 with ⟨h1, _⟩ | ⟨g', cap', cur, hv, hB, hg, hnc, hcm, hs, ht⟩
  · cases h1
  · injection hv with e1 e2 e3
    injection e1 with e1
    injection e1 with e1 _ _
    subst e1
    subst e3
    subst e2
    rw [Nat.mul_one] at ht hs
    refine .inr ⟨g, cap, cur.setIfInBounds i (encStr x), by rw [List.length_set], hB, ?_, by rw [List.length_set]; exact hnc, hcm, by rw [Nat.mul_one]; simpa using hs, ?_⟩
    · rw [Go.Sort.setCell_eq]
      show (w.heap.modify g _)[g]? = _
      rw [Array.getElem?_modify, if_pos rfl, hg]
      rfl
    · rw [Nat.mul_one, List.length_set, Array.toList_setIfInBounds]
      have e : texts (l.set i x) = (texts l).set i (encStr x) := by simp [texts, List.map_set]
      rw [e, ← ht, List.take_set]
theorem rdy_cell {w : World} {B g cap n : Nat} {l : List Bs} (h : OwT w B tId (.slice (some ⟨g, 0, none⟩) n cap) l) {k : Nat} (hk : k < l.length) : w.cell? ⟨g, k, none⟩ = some (encStr (l.getD k [])) ∧ w.frozen? ⟨g, k, none⟩ = false := by
  have hn : n = l.length := by
    rcases h.2 with ⟨h1, _⟩ | ⟨g', cap', cur, hv, _⟩
    · cases h1
    · injection hv
  subst hn
  obtain ⟨k1, k2, _⟩ := row_holds h
  have := k1 k (by simpa using hk)
  have e : l.toArray[k]! = l.getD k [] := by rw [List.getElem!_toArray, List.getD_eq_getElem?_getD, List.getElem!_eq_getElem?_getD]; rfl
  rw [Nat.zero_add, e] at this
  exact this
set_option maxHeartbeats 2000000 in
theorem hpless_any {w : World} {B g cap : Nat} {l : List Bs} (h : OwT w B tId (.slice (some ⟨g, 0, none⟩) l.length cap) l) (i j : Nat) (hi : i < l.length) (hj : j < l.length) (_hl : l.length ≤ 1000) :
    Calls Try.prog 132 #[.slice (some ⟨g, 0, none⟩) l.length cap, .int .i64 i, .int .i64 j] w fun y w' => y = .returned (.bool (lt (l.getD i []) (l.getD j []))) ∧ ∃ q, w' = w.drewN q := by
  have ci := (rdy_cell h hi).1
  have cj := (rdy_cell h hj).1
  obtain ⟨n, hn⟩ : ∃ n, n = l.length := ⟨_, rfl⟩
  rw [← hn] at hi hj ⊢
  obtain ⟨x, hx⟩ : ∃ x, x = l.getD i [] := ⟨_, rfl⟩
  obtain ⟨z, hz⟩ : ∃ z, z = l.getD j [] := ⟨_, rfl⟩
  rw [← hx] at ci ⊢
  rw [← hz] at cj ⊢
  clear h hn hx hz
  go_enter Try.func132, Try.ntmps132
  go_wp2
  go_quiet (fail)
  go_wp2
  go_ret
  exact ⟨by simp, nq, rfl⟩
set_option maxHeartbeats 2000000 in
theorem hpswap_any {w : World} {B g cap : Nat} {l : List Bs} (h : OwT w B tId (.slice (some ⟨g, 0, none⟩) l.length cap) l) (i j : Nat) (hi : i < l.length) (hj : j < l.length) (_hl : l.length ≤ 1000) :
    Calls Try.prog 133 #[.slice (some ⟨g, 0, none⟩) l.length cap, .int .i64 i, .int .i64 j] w fun y w' => y = .returned (.tuple #[]) ∧ OwT w' B tId (.slice (some ⟨g, 0, none⟩) l.length cap) (swp l i j) ∧ w.grownBy w' (some g) := by
  have HO := hide (show OwT ((w.setCell ⟨g, i, none⟩ (encStr (l.getD j []))).setCell ⟨g, j, none⟩ (encStr (l.getD i []))) B tId (.slice (some ⟨g, 0, none⟩) l.length cap) (swp l i j) from OwT.set (OwT.set h i _) j _)
  have HG := hide (show w.grownBy ((w.setCell ⟨g, i, none⟩ (encStr (l.getD j []))).setCell ⟨g, j, none⟩ (encStr (l.getD i []))) (some g) from
    ⟨rfl, rfl, rfl, by simp [World.setCell], fun k _ hk => by
      have hk' : k ≠ g := fun e => hk (by rw [e])
      exact (Below.heap_setCell _ _ _ k hk').trans (Below.heap_setCell _ _ _ k hk')⟩)
  obtain ⟨ci, fi⟩ := rdy_cell h hi
  obtain ⟨cj, fj⟩ := rdy_cell h hj
  obtain ⟨n, hn⟩ : ∃ n, n = l.length := ⟨_, rfl⟩
  rw [← hn] at hi hj HO ⊢
  obtain ⟨x, hx⟩ : ∃ x, x = l.getD i [] := ⟨_, rfl⟩
  obtain ⟨z, hz⟩ : ∃ z, z = l.getD j [] := ⟨_, rfl⟩
  rw [← hx] at ci HO HG
  rw [← hz] at cj HO HG
  obtain ⟨v', hy'⟩ := cell?_setCell_some (w := w) (p := ⟨g, i, none⟩) (x := encStr z) (q := ⟨g, j, none⟩) cj
  clear h hn hx hz
  go_enter Try.func133, Try.ntmps133
  go_wp2
  go_region
  all_goals (try go_wp2)
  all_goals go_end0
  all_goals exact ⟨rfl, HO.out, ⟨HG.out.os, HG.out.tape, HG.out.output, HG.out.size, HG.out.block⟩⟩
/-! ### The methods, by the pointer -/
noncomputable def mrow (nm : String) : Option (Bool × Option (FuncId × Bool)) := (Try.prog.info? 96).bind fun i => (i.methods.find? (·.name == nm)).map fun m => (m.path.isEmpty, m.func)
theorem mrow_len : mrow "Len" = some (true, some (131, false)) := by kernel_rfl
theorem mrow_less : mrow "Less" = some (true, some (132, false)) := by kernel_rfl
theorem mrow_swap : mrow "Swap" = some (true, some (133, false)) := by kernel_rfl
theorem mrow_push : mrow "Push" = some (true, some (135, true)) := by kernel_rfl
theorem mrow_pop : mrow "Pop" = some (true, some (134, true)) := by kernel_rfl
theorem wrap_ok (w : World) (q : Nat) (t : TypeId) (s : String) : (Builtin.ssaWrapNilChk_ #[t] t #[pt q, strVal "", strVal s]).run Try.prog w = .ok (pt q) w := rfl
theorem meth_val {nm : String} {f : FuncId} (hm : mrow nm = some (true, some (f, false))) {w : World} {q : Nat} {v : Value} (hc : w.cell? ⟨q, 0, none⟩ = some v) (n : Nat) : (method (n + 1) 96 (pt q) nm).run Try.prog w = .ok (f, v) w := by
  unfold mrow at hm
  cases hi : Try.prog.info? 96 with
  | none => rw [hi] at hm; cases hm
  | some i =>
    rw [hi] at hm
    simp only [Option.bind_some] at hm
    cases hf : i.methods.find? (·.name == nm) with
    | none => rw [hf] at hm; cases hm
    | some m =>
      rw [hf] at hm
      simp only [Option.map_some, Option.some.injEq, Prod.mk.injEq] at hm
      obtain ⟨h1, h2⟩ := hm
      have hp : m.path = #[] := by simpa using h1
      unfold method
      simp [typeInfo, hi, hf, hp, h2, follow, receiverAt, Place.get, run_underlying Try.underlying96, wrap_ok, loadVar, show (asAddr (pt q)).run Try.prog w = .ok ⟨q, 0, none⟩ w from rfl, hc, Result.andThen]
theorem meth_ptr {nm : String} {f : FuncId} (hm : mrow nm = some (true, some (f, true))) (w : World) (q : Nat) (n : Nat) : (method (n + 1) 96 (pt q) nm).run Try.prog w = .ok (f, pt q) w := by
  unfold mrow at hm
  cases hi : Try.prog.info? 96 with
  | none => rw [hi] at hm; cases hm
  | some i =>
    rw [hi] at hm
    simp only [Option.bind_some] at hm
    cases hf : i.methods.find? (·.name == nm) with
    | none => rw [hf] at hm; cases hm
    | some m =>
      rw [hf] at hm
      simp only [Option.map_some, Option.some.injEq, Prod.mk.injEq] at hm
      obtain ⟨h1, h2⟩ := hm
      have hp : m.path = #[] := by simpa using h1
      unfold method
      simp [typeInfo, hi, hf, hp, h2, follow, receiverAt, Place.get, run_underlying Try.underlying96, Result.andThen]
/-! ### The heap -/
/-- a heap lies in the blocks of S: its variable, its row -/
structure HpIn (w : World) (S : Nat → Prop) (q : Nat) (l : List Bs) : Prop where
  row : ∃ v, w.heap[q]? = some (.cells #[v] tRdy (0, 0)) ∧ OwT w 0 tId v l ∧ ∀ g, v.ownBlock = some g → S g
  own : S q
  lt : ∀ k, S k → k < w.heap.size
theorem HpIn.cell {w : World} {S : Nat → Prop} {q : Nat} {l : List Bs} (h : HpIn w S q l) : ∃ A c, w.cell? ⟨q, 0, none⟩ = some (.slice A l.length c) ∧ w.frozen? ⟨q, 0, none⟩ = false ∧ OwT w 0 tId (.slice A l.length c) l ∧
    w.heap[q]? = some (.cells #[.slice A l.length c] tRdy (0, 0)) ∧ (∀ g, Value.ownBlock (.slice A l.length c) = some g → S g ∧ g ≠ q) ∧ (l ≠ [] → ∃ g, A = some ⟨g, 0, none⟩) := by
  obtain ⟨⟨v, h1, h2, h3⟩, _⟩ := h
  obtain ⟨A, c, rfl, _⟩ := h2.vs
  refine ⟨A, c, by simp [World.cell?, h1], by simp [World.frozen?, h1], h2, h1, fun g hg => ⟨h3 g hg, fun e => ?_⟩, fun hne => ?_⟩
  · rcases h2.2 with ⟨hv, h0⟩ | ⟨g', cap, cur, hv, _, hg', _⟩
    · rw [hv] at hg; cases hg
    · rw [hv] at hg
      have e2 : g' = g := by simpa [Value.ownBlock] using hg
      subst e2
      subst e
      rw [h1] at hg'
      injection hg' with hg'
      injection hg' with _ e4 _
      exact absurd e4 (by decide)
  · rcases h2.2 with ⟨_, h0⟩ | ⟨g, cap, cur, hv, _, hg, _⟩
    · exact absurd (List.eq_nil_of_length_eq_zero h0) hne
    · injection hv with e1 e2 e3
      exact ⟨g, e1⟩
theorem HpIn.move {w w' : World} {S : Nat → Prop} {q : Nat} {l : List Bs} (h : HpIn w S q l) (hb : ∀ k, S k → w'.heap[k]? = w.heap[k]?) (hs : w.heap.size ≤ w'.heap.size) : HpIn w' S q l := by
  obtain ⟨⟨v, h1, h2, h3⟩, h4, h5⟩ := h
  refine ⟨⟨v, (hb q h4).trans h1, ⟨h2.1, ?_⟩, h3⟩, h4, fun k hk => Nat.lt_of_lt_of_le (h5 k hk) hs⟩
  rcases h2.2 with k | ⟨g, cap, cur, hv, k1, k2, k3⟩
  · exact .inl k
  · exact .inr ⟨g, cap, cur, hv, k1, (hb g (h3 g (by rw [hv]; rfl))).trans k2, k3⟩
theorem HpIn.drewN {w : World} {S : Nat → Prop} {q : Nat} {l : List Bs} (h : HpIn w S q l) (n : Nat) : HpIn (w.drewN n) S q l := h.move (fun _ _ => rfl) (Nat.le_refl _)
/-- its row has turned -/
theorem HpIn.turn {w w' : World} {S : Nat → Prop} {q : Nat} {l l' : List Bs} {g n c : Nat} (h : HpIn w S q l) (hc : w.heap[q]? = some (.cells #[.slice (some ⟨g, 0, none⟩) n c] tRdy (0, 0))) (hq : S g ∧ g ≠ q)
    (ho : OwT w' 0 tId (.slice (some ⟨g, 0, none⟩) n c) l') (hg : w.grownBy w' (some g)) : HpIn w' S q l' :=
  ⟨⟨_, (hg.block q (h.lt q h.own) (fun e => hq.2 (by injection e with e; exact e.symm))).trans hc, ho, fun g' hg' => by
    have : g = g' := by simpa [Value.ownBlock] using hg'
    rw [← this]; exact hq.1⟩, h.own, fun k hk => Nat.lt_of_lt_of_le (h.lt k hk) hg.size⟩
end Go.Proofs.Ytplmcpdlommmaaa.Dq
