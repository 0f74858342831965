/-
  diff.Turn.
-/
import Derived.Test.YtofccahgmkifjaaQ4
namespace Go.Proofs.Ytofccahgmkifjaa.Df
open Go Go.RowKit Kt Lw

theorem vs_drew {w : World} {P : Nat → Prop} {A : Option Addr} {c : Nat} {vs : List Value} (h : Vs w P A c vs) : Vs w.drew P A c vs := h
theorem turn_len (a : Ls) : ∀ (L : List Ed) (more : Int), (turn a more L).length = L.length
  | [], _ => rfl
  | e :: L, more => by rw [turn, List.length_cons, turn_len a L, List.length_cons]
end Go.Proofs.Ytofccahgmkifjaa.Df
namespace Go.Proofs.Ytofccahgmkifjaa.Df
open Go Go.RowKit Kt Lw Li

/-- the cell of text i, here -/
theorem vs_at {w : World} {P : Nat → Prop} {A : Option Addr} {c : Nat} {l : Ls} (h : Vs w P A c (texts l)) {k : Nat} (hk : k < l.length) :
    ∃ b o, A = some ⟨b, o, none⟩ ∧ w.cell? ⟨b, o + k, none⟩ = some (.string ⟨(l.getD k []).toArray⟩) := by
  obtain ⟨b, o, rfl, hp, hc⟩ := h.2 (by rw [texts_len]; omega)
  exact ⟨b, o, rfl, hc k _ (texts_at l k hk)⟩
theorem beq_txt (x y : List UInt8) : (x == y) = decide (x = y) := by rw [Bool.eq_iff_iff, beq_iff_eq, decide_eq_true_iff]
set_option maxHeartbeats 400000 in
theorem same_front (a b : Ls) (A A' : Option Addr) (c c' i g g' : Nat) (P P' : Nat → Prop) (w : World) (h1 : w.cell? ⟨g, 0, none⟩ = some (.slice A a.length c)) (h2 : w.cell? ⟨g', 0, none⟩ = some (.slice A' b.length c'))
    (hs : Vs w P A c (texts a)) (hs' : Vs w P' A' c' (texts b)) (hi : i < a.length) (hi' : i < b.length) (_hla : a.length ≤ 1000000) (_hlb : b.length ≤ 1000000) :
    Calls Try.prog 43 #[.int .i64 (i : Int), .pointer (some ⟨g, 0, none⟩), .pointer (some ⟨g', 0, none⟩)] w fun y w' => y = .returned (.bool (frP a b i)) ∧ ∃ n, w' = w.drewN n := by
  obtain ⟨ba, oa, rfl, ca⟩ := vs_at hs hi
  obtain ⟨bb, ob, rfl, cb⟩ := vs_at hs' hi'
  have Hz := hide (beq_txt (a.getD i []) (b.getD i []))
  have Hf := hide (show frP a b i = decide (a.getD i [] = b.getD i []) from rfl)
  generalize decide (a.getD i [] = b.getD i []) = z at *
  generalize a.getD i [] = x at *
  generalize b.getD i [] = y at *
  obtain ⟨n, hn⟩ : ∃ n, n = a.length := ⟨_, rfl⟩
  obtain ⟨m, hm⟩ : ∃ m, m = b.length := ⟨_, rfl⟩
  rw [← hn] at h1 hi
  rw [← hm] at h2 hi'
  clear hn hm hs hs'
  go_enter Try.func43, Try.ntmps43
  go_wp2
  go_quiet (fail)
  go_wp2
  go_ret
  exact ⟨by rw [Hf.out, ← Hz.out]; rfl, _, rfl⟩
set_option maxHeartbeats 400000 in
theorem same_back (a b : Ls) (A A' : Option Addr) (c c' i g g' : Nat) (P P' : Nat → Prop) (w : World) (h1 : w.cell? ⟨g, 0, none⟩ = some (.slice A a.length c)) (h2 : w.cell? ⟨g', 0, none⟩ = some (.slice A' b.length c'))
    (hs : Vs w P A c (texts a)) (hs' : Vs w P' A' c' (texts b)) (hi : i < a.length) (hi' : i < b.length) (hla : a.length ≤ 1000000) (hlb : b.length ≤ 1000000) :
    Calls Try.prog 44 #[.int .i64 (i : Int), .pointer (some ⟨g, 0, none⟩), .pointer (some ⟨g', 0, none⟩)] w fun y w' => y = .returned (.bool (bkP a b i)) ∧ ∃ n, w' = w.drewN n := by
  obtain ⟨ba, oa, rfl, ca⟩ := vs_at hs (k := a.length - 1 - i) (by omega)
  obtain ⟨bb, ob, rfl, cb⟩ := vs_at hs' (k := b.length - 1 - i) (by omega)
  have Hz := hide (beq_txt (a.getD (a.length - 1 - i) []) (b.getD (b.length - 1 - i) []))
  have Hf := hide (show bkP a b i = decide (a.getD (a.length - 1 - i) [] = b.getD (b.length - 1 - i) []) from rfl)
  generalize decide (a.getD (a.length - 1 - i) [] = b.getD (b.length - 1 - i) []) = z at *
  generalize a.getD (a.length - 1 - i) [] = x at *
  generalize b.getD (b.length - 1 - i) [] = y at *
  obtain ⟨n, hn⟩ : ∃ n, n = a.length := ⟨_, rfl⟩
  obtain ⟨m, hm⟩ : ∃ m, m = b.length := ⟨_, rfl⟩
  rw [← hn] at h1 hi hla ca
  rw [← hm] at h2 hi' hlb cb
  obtain ⟨p, hp⟩ : ∃ p, p = n - 1 - i := ⟨_, rfl⟩
  obtain ⟨q, hq⟩ : ∃ q, q = m - 1 - i := ⟨_, rfl⟩
  rw [← hp] at ca
  rw [← hq] at cb
  have hw1 : IntKind.i64.wrap ((n : Int) - 1) = (n : Int) - 1 := IntWalk.i64_in _ (by omega)
  have hw2 : IntKind.i64.wrap ((m : Int) - 1) = (m : Int) - 1 := IntWalk.i64_in _ (by omega)
  have hw3 : IntKind.i64.wrap ((n : Int) - 1 - i) = (p : Int) := by rw [IntWalk.i64_in _ (by omega)]; omega
  have hw4 : IntKind.i64.wrap ((m : Int) - 1 - i) = (q : Int) := by rw [IntWalk.i64_in _ (by omega)]; omega
  have hp' : p < n := by omega
  have hq' : q < m := by omega
  clear hn hm hs hs' hp hq
  go_enter Try.func44, Try.ntmps44
  go_wp2
  go_quiet (fail)
  go_wp2
  go_ret
  exact ⟨by rw [Hf.out, ← Hz.out]; rfl, _, rfl⟩
set_option maxHeartbeats 400000 in
theorem alike_front (a b : Ls) (A A' : Option Addr) (c c' m g g' : Nat) (w : World) (h1 : w.cell? ⟨g, 0, none⟩ = some (.slice A a.length c)) (h2 : w.cell? ⟨g', 0, none⟩ = some (.slice A' b.length c'))
    (hs : Vs w (fun b => b < w.heap.size) A c (texts a)) (hs' : Vs w (fun b => b < w.heap.size) A' c' (texts b)) (hm : m ≤ a.length) (hm' : m ≤ b.length) (hla : a.length ≤ 1000000) (hlb : b.length ≤ 1000000) :
    Calls Try.prog 42 #[.int .i64 (m : Int), .func (.func 43) #[] #[.pointer (some ⟨g, 0, none⟩), .pointer (some ⟨g', 0, none⟩)]] w fun y w' => (∃ n : Nat, y = .returned (.int .i64 (n : Int)) ∧ IsRun (frP a b) m n) ∧ ∃ n, w' = w.drewN n := by
  have Hc := fun (i n : Nat) (h : i < m) => same_front a b A A' c c' i g g' _ _ (w.drewN n) h1 h2 hs hs' (by omega) (by omega) hla hlb
  have HC := hide Hc
  have hm6 : m ≤ 1000000 := by omega
  clear h1 h2 hs hs' hla hlb hm hm' Hc
  go_enter Try.func42, Try.ntmps42
  go_wp2
  go_loopw [5] (fun i wr => ∃ k n : Nat, k ≤ m ∧ i = .int .i64 k ∧ (∀ j, j < k → frP a b j = true) ∧ wr = w.drewN n) (fun i _ => m - (intOf i).toNat)
  case atStart => exact ⟨0, 0, Nat.zero_le _, rfl, fun j h => absurd h (Nat.not_lt_zero _), rfl⟩
  case round =>
    obtain ⟨k, n, hk, rfl, hall, rfl⟩ := hrel
    have Hall := hide hall
    clear hall
    by_cases hlt : k < m
    · have HCk := hide (HC.out k n hlt)
      cases hp : frP a b k with
      | true =>
        rw [hp] at HCk
        have Hp := hide hp
        clear hp
        go_wp2_with fail
        refine HCk.out.mono ?_
        rintro y w2 ⟨rfl, n2, rfl⟩
        go_wp2
        refine ⟨⟨k + 1, n + n2, by omega, by go_num, fun j hj => ?_, rfl⟩, by simp [intOf]; omega⟩
        rcases Nat.lt_or_ge j k with hl | hl
        · exact Hall.out j hl
        · obtain rfl : j = k := by omega
          exact Hp.out
      | false =>
        rw [hp] at HCk
        have Hp := hide hp
        clear hp
        go_wp2_with fail
        refine HCk.out.mono ?_
        rintro y w2 ⟨rfl, n2, rfl⟩
        go_wp2
        go_ret
        exact ⟨⟨k, rfl, ⟨hk, Hall.out, fun _ => Hp.out⟩⟩, n + n2, rfl⟩
    · obtain rfl : k = m := by omega
      go_wp2
      go_ret
      exact ⟨⟨k, rfl, ⟨hk, Hall.out, fun h => absurd h hlt⟩⟩, n, rfl⟩
set_option maxHeartbeats 400000 in
theorem alike_back (a b : Ls) (A A' : Option Addr) (c c' m g g' : Nat) (w : World) (h1 : w.cell? ⟨g, 0, none⟩ = some (.slice A a.length c)) (h2 : w.cell? ⟨g', 0, none⟩ = some (.slice A' b.length c'))
    (hs : Vs w (fun b => b < w.heap.size) A c (texts a)) (hs' : Vs w (fun b => b < w.heap.size) A' c' (texts b)) (hm : m ≤ a.length) (hm' : m ≤ b.length) (hla : a.length ≤ 1000000) (hlb : b.length ≤ 1000000) :
    Calls Try.prog 42 #[.int .i64 (m : Int), .func (.func 44) #[] #[.pointer (some ⟨g, 0, none⟩), .pointer (some ⟨g', 0, none⟩)]] w fun y w' => (∃ n : Nat, y = .returned (.int .i64 (n : Int)) ∧ IsRun (bkP a b) m n) ∧ ∃ n, w' = w.drewN n := by
  have Hc := fun (i n : Nat) (h : i < m) => same_back a b A A' c c' i g g' _ _ (w.drewN n) h1 h2 hs hs' (by omega) (by omega) hla hlb
  have HC := hide Hc
  have hm6 : m ≤ 1000000 := by omega
  clear h1 h2 hs hs' hla hlb hm hm' Hc
  go_enter Try.func42, Try.ntmps42
  go_wp2
  go_loopw [5] (fun i wr => ∃ k n : Nat, k ≤ m ∧ i = .int .i64 k ∧ (∀ j, j < k → bkP a b j = true) ∧ wr = w.drewN n) (fun i _ => m - (intOf i).toNat)
  case atStart => exact ⟨0, 0, Nat.zero_le _, rfl, fun j h => absurd h (Nat.not_lt_zero _), rfl⟩
  case round =>
    obtain ⟨k, n, hk, rfl, hall, rfl⟩ := hrel
    have Hall := hide hall
    clear hall
    by_cases hlt : k < m
    · have HCk := hide (HC.out k n hlt)
      cases hp : bkP a b k with
      | true =>
        rw [hp] at HCk
        have Hp := hide hp
        clear hp
        go_wp2_with fail
        refine HCk.out.mono ?_
        rintro y w2 ⟨rfl, n2, rfl⟩
        go_wp2
        refine ⟨⟨k + 1, n + n2, by omega, by go_num, fun j hj => ?_, rfl⟩, by simp [intOf]; omega⟩
        rcases Nat.lt_or_ge j k with hl | hl
        · exact Hall.out j hl
        · obtain rfl : j = k := by omega
          exact Hp.out
      | false =>
        rw [hp] at HCk
        have Hp := hide hp
        clear hp
        go_wp2_with fail
        refine HCk.out.mono ?_
        rintro y w2 ⟨rfl, n2, rfl⟩
        go_wp2
        go_ret
        exact ⟨⟨k, rfl, ⟨hk, Hall.out, fun _ => Hp.out⟩⟩, n + n2, rfl⟩
    · obtain rfl : k = m := by omega
      go_wp2
      go_ret
      exact ⟨⟨k, rfl, ⟨hk, Hall.out, fun h => absurd h hlt⟩⟩, n, rfl⟩
end Go.Proofs.Ytofccahgmkifjaa.Df
namespace Go.Proofs.Ytofccahgmkifjaa.Df
open Go Go.RowKit Kt Lw Li

abbrev tI : TypeId := 3
abbrev tT : TypeId := 101
/-- a row of numbers of the call's own, as long as it may be -/
def Nums (w : World) (B g N : Nat) (L : List Int) : Prop := w.ownsRow B tI 1 (.slice (some ⟨g, 0, none⟩) N N) N (nums .i64 L)
theorem Nums.len {w : World} {B g N : Nat} {L : List Int} (h : Nums w B g N L) : L.length = N := by
  have := h.1
  rw [nums_len] at this
  omega
theorem Nums.cell {w : World} {B g N : Nat} {L : List Int} (h : Nums w B g N L) {k : Nat} (hk : k < N) : w.cell? ⟨g, k, none⟩ = some (.int .i64 (L.getD k 0)) := by
  rw [World.ownsRow.cellAt h k (by omega), nums_at _ _ _ (by rw [h.len]; exact hk)]
theorem Nums.lt {w : World} {B g N : Nat} {L : List Int} (h : Nums w B g N L) : B ≤ g ∧ g < w.heap.size := World.ownsRow.lt h g rfl
theorem Nums.kept {w w' : World} {B g N : Nat} {L : List Int} (h : Nums w B g N L) (hb : Below w.heap.size w w') : Nums w' B g N L :=
  World.ownsRow.kept (row := none) h ⟨hb.os, hb.tape, hb.output, hb.size, fun k hk _ => hb.block k hk⟩ (.inr (by simp [Value.ownBlock]))
theorem Nums.drew {w : World} {B g N : Nat} {L : List Int} (h : Nums w B g N L) : Nums w.drew B g N L := h
theorem Nums.drewN {w : World} {B g N : Nat} {L : List Int} (h : Nums w B g N L) (n : Nat) : Nums (w.drewN n) B g N L := h
theorem Nums.put {w : World} {B g N : Nat} {L : List Int} (h : Nums w B g N L) (k : Nat) (z : Int) : Nums (w.setCell ⟨g, k, none⟩ (.int .i64 z)) B g N (L.set k z) := by
  have := (World.ownsRow.stored h k (.int .i64 z)).1
  unfold Nums nums
  rw [List.map_set]
  exact this
theorem Nums.free {w : World} {B g N : Nat} {L : List Int} (h : Nums w B g N L) (k : Nat) : w.frozen? ⟨g, k, none⟩ = false := World.ownsRow.frozenAt h k
theorem Nums.off {w : World} {B g N : Nat} {L : List Int} (h : Nums w B g N L) {b : Nat} (hb : b ≠ g) (k : Nat) (u : Value) : Nums (w.setCell ⟨b, k, none⟩ u) B g N L :=
  World.ownsRow.kept (row := some b) h (grown_put (World.grownBy.refl w (some b)) u) (.inr (by simp [Value.ownBlock]; exact fun e => hb e.symm))
theorem Nums.made (w : World) (B N : Nat) (hB : B ≤ w.heap.size) (hN : N ≤ 1000000) : Nums (w.alloc (.cells (madeCells #[.int .i64 0] N) tI)) B w.heap.size N (List.replicate N 0) := by
  have := World.ownsRow_lit (e := tI) (size := 1) (base := B) w (madeCells #[.int .i64 0] N) N hB (by unfold maxLen; omega) (by simp [madeCells])
  unfold Nums nums
  rw [List.map_replicate, ← toList_madeCells_one]
  exact this

set_option maxHeartbeats 400000 in
theorem at_any (w : World) (B g N W i j : Nat) (L : List Int) (h : Nums w B g N L) (hN : N ≤ 1000000) (_hW : W ≤ 1000000) (_hi : i ≤ 1000000) (hj : j ≤ 1000000) (hk : i * W + j < N) :
    Calls Try.prog 64 #[.agg #[.int .i64 (W : Int), .slice (some ⟨g, 0, none⟩) N N], .int .i64 (i : Int), .int .i64 (j : Int)] w fun y w' => y = .returned (.int .i64 (L.getD (i * W + j) 0)) ∧ Below w.heap.size w w' := by
  obtain ⟨q, hq⟩ : ∃ q, q = i * W := ⟨_, rfl⟩
  have hqi : (i : Int) * (W : Int) = (q : Int) := by rw [hq]; simp
  rw [← hq] at hk ⊢
  obtain ⟨k, hkq⟩ : ∃ k, k = q + j := ⟨_, rfl⟩
  rw [← hkq] at hk ⊢
  have hkq' : (q : Int) + (j : Int) = (k : Int) := by omega
  have hq6 : q ≤ 1000000 := by omega
  have hw1 : wrap64 ((i : Int) * (W : Int)) = (q : Int) := by rw [hqi]; unfold wrap64; omega
  have hc := (h.kept ((Below.refl _ w).alloc (Nat.le_refl _) (.cells #[.int .i64 (W : Int), .slice (some ⟨g, 0, none⟩) N N] tT))).cell hk
  have hg := h.lt.2
  generalize L.getD k 0 = z at *
  clear hq hkq h
  go_enter Try.func64, Try.ntmps64
  go_wp2
  go_ret
  exact ⟨rfl, (Below.refl _ _).alloc (Nat.le_refl _) _⟩

theorem idx_inj {W i j i' j' : Nat} (hj : j < W) (hj' : j' < W) (h : i * W + j = i' * W + j') : i = i' ∧ j = j' := by
  have h1 : (i * W + j) / W = i := by rw [Nat.mul_comm, Nat.mul_add_div (by omega), Nat.div_eq_of_lt hj, Nat.add_zero]
  have h2 : (i' * W + j') / W = i' := by rw [Nat.mul_comm, Nat.mul_add_div (by omega), Nat.div_eq_of_lt hj', Nat.add_zero]
  have h3 : i = i' := by rw [← h1, ← h2, h]
  subst h3
  exact ⟨rfl, by omega⟩
theorem idx_lt {W i j m : Nat} (hi : i ≤ m) (hj : j < W) : i * W + j < (m + 1) * W := by
  have : i * W ≤ m * W := Nat.mul_le_mul_right W hi
  rw [Nat.succ_mul]
  omega
/-- the table is filled behind line i, and on line i behind place j -/
def Filled (x y : Ls) (i j : Nat) (L : List Int) : Prop :=
  ∀ i' j' : Nat, i' ≤ x.length → j' ≤ y.length → (i < i' ∨ j' = y.length ∨ (i = i' ∧ j ≤ j')) → L.getD (i' * (y.length + 1) + j') 0 = (lcs (x.drop i') (y.drop j') : Nat)
theorem set_getD (L : List Int) (k k' : Nat) (z : Int) (hk : k < L.length) : (L.set k z).getD k' 0 = if k = k' then z else L.getD k' 0 := by
  rw [List.getD_eq_getElem?_getD, List.getElem?_set, List.getD_eq_getElem?_getD]
  by_cases h : k = k'
  · subst h; simp [hk]
  · simp [h]
theorem drop_getD_cons (x : Ls) (i : Nat) (h : i < x.length) : x.drop i = x.getD i [] :: x.drop (i + 1) := by
  rw [List.drop_eq_getElem_cons h]
  simp [List.getElem?_eq_getElem h]
theorem Filled.step {x y : Ls} {i j : Nat} {L : List Int} (h : Filled x y i (j + 1) L) (hi : i < x.length) (hj : j < y.length) (hL : L.length = (x.length + 1) * (y.length + 1)) (z : Int)
    (hz : z = if x.getD i [] = y.getD j [] then L.getD ((i + 1) * (y.length + 1) + (j + 1)) 0 + 1 else max (L.getD ((i + 1) * (y.length + 1) + j) 0) (L.getD (i * (y.length + 1) + (j + 1)) 0)) :
    Filled x y i j (L.set (i * (y.length + 1) + j) z) := by
  intro i' j' hi' hj' hc
  rw [set_getD _ _ _ _ (by rw [hL]; exact idx_lt (by omega) (by omega))]
  by_cases he : i * (y.length + 1) + j = i' * (y.length + 1) + j'
  · obtain ⟨rfl, rfl⟩ := idx_inj (by omega) (by omega) he
    rw [if_pos rfl, hz, drop_getD_cons x _ hi, drop_getD_cons y _ hj, lcs_cons, h (i + 1) (j + 1) (by omega) (by omega) (.inl (by omega)), h (i + 1) j (by omega) (by omega) (.inl (by omega)), h i (j + 1) (by omega) (by omega) (.inr (.inr ⟨rfl, Nat.le_refl _⟩)),
      ← drop_getD_cons x _ hi, ← drop_getD_cons y _ hj]
    split <;> omega
  · rw [if_neg he]
    refine h i' j' hi' hj' ?_
    rcases hc with h1 | h1 | ⟨h1, h2⟩
    · exact .inl h1
    · exact .inr (.inl h1)
    · right; right
      refine ⟨h1, ?_⟩
      rcases Nat.lt_or_ge j j' with h3 | h3
      · exact h3
      · exfalso; apply he; rw [h1, show j = j' from by omega]
theorem Filled.first (x y : Ls) (N : Nat) : Filled x y x.length 0 (List.replicate N 0) := by
  intro i' j' hi' hj' hc
  have h0 : (List.replicate N (0 : Int)).getD (i' * (y.length + 1) + j') 0 = 0 := by
    rw [List.getD_eq_getElem?_getD, List.getElem?_replicate]
    split <;> rfl
  rw [h0]
  rcases hc with h1 | h1 | ⟨h1, _⟩
  · omega
  · rw [h1, List.drop_length, lcs_nil_right]; rfl
  · rw [← h1, List.drop_length, lcs_nil_left]; rfl
theorem Filled.line {x y : Ls} {i : Nat} {L : List Int} (h : Filled x y (i + 1) 0 L) : Filled x y i y.length L := by
  intro i' j' hi' hj' hc
  refine h i' j' hi' hj' ?_
  rcases hc with h1 | h1 | ⟨h1, h2⟩
  · rcases Nat.lt_or_ge (i + 1) i' with h3 | h3
    · exact .inl h3
    · exact .inr (.inr ⟨by omega, Nat.zero_le _⟩)
  · exact .inr (.inl h1)
  · exact .inr (.inl (by omega))

theorem infoInt : (Try.prog.info? 3).map (fun i => (i.zero, i.size, i.bytes)) = some (some (.int .i64 0), 1, 8) := by kernel_rfl
theorem make_nums (N : Nat) (hN : N ≤ 1000000) : ∃ C : Array Value, (∀ w : World, (Instr.makeSlice 65 (.int .i64 (N : Int)) (.int .i64 (N : Int))).run Try.prog w = .ok (.slice (some ⟨w.heap.size, 0, none⟩) N N) (w.alloc (.cells C tI))) ∧
    ∀ (w : World) (B : Nat), B ≤ w.heap.size → Nums (w.alloc (.cells C tI)) B w.heap.size N (List.replicate N 0) := by
  obtain ⟨i0, hi0, hz0, hz1, hz2⟩ := info_parts infoInt
  refine ⟨madeCells #[.int .i64 0] N, fun w => ?_, fun w B hB => Nums.made w B N hB hN⟩
  have hr := run_makeSlice (P := Try.prog) w 65 3 i0 (.int .i64 0) Try.underlying65 hi0 hz0 .i64 .i64 (N : Int) (N : Int) (by omega) (Int.le_refl _) (by rw [hz1]; simp; omega) (by rw [hz2]; omega) (by omega)
  rw [hz1, Int.toNat_natCast, Nat.mul_one] at hr
  exact hr

end Go.Proofs.Ytofccahgmkifjaa.Df
