/-
  diff.Turn.
-/
import Derived.Test.YtghnieddokhagaaQEE
namespace Go.Proofs.Ytghnieddokhagaa.Df
open Go Go.RowKit Kt Lw

theorem vs_drew {w : World} {P : Nat → Prop} {A : Option Addr} {c : Nat} {vs : List Value} (h : Vs w P A c vs) : Vs w.drew P A c vs := h
theorem turn_len (a : Ls) : ∀ (L : List Ed) (more : Int), (turn a more L).length = L.length
  | [], _ => rfl
  | e :: L, more => by rw [turn, List.length_cons, turn_len a L, List.length_cons]
end Go.Proofs.Ytghnieddokhagaa.Df
namespace Go.Proofs.Ytghnieddokhagaa.Df
open Go Go.RowKit Kt Lw Li

/-- the cell of text i, here -/
theorem vs_at {w : World} {P : Nat → Prop} {A : Option Addr} {c : Nat} {l : Ls} (h : Vs w P A c (texts l)) {k : Nat} (hk : k < l.length) :
    ∃ b o, A = some ⟨b, o, none⟩ ∧ w.cell? ⟨b, o + k, none⟩ = some (.string ⟨(l.getD k []).toArray⟩) := by
  obtain ⟨b, o, rfl, hp, hc⟩ := h.2 (by rw [texts_len]; omega)
  exact ⟨b, o, rfl, hc k _ (texts_at l k hk)⟩
theorem beq_txt (x y : List UInt8) : (x == y) = decide (x = y) := by rw [Bool.eq_iff_iff, beq_iff_eq, decide_eq_true_iff]
set_option maxHeartbeats 400000 in
theorem same_front (a b : Ls) (A A' : Option Addr) (c c' i g g' : Nat) (P P' : Nat → Prop) (w : World) (h1 : w.cell? ⟨g, 0, none⟩ = some (.slice A a.length c)) (h2 : w.cell? ⟨g', 0, none⟩ = some (.slice A' b.length c'))
    (hs : Vs w P A c (texts a)) (hs' : Vs w P' A' c' (texts b)) (hi : i < a.length) (hi' : i < b.length) (_hla : a.length ≤ 1000000) (_hlb : b.length ≤ 1000000) :
    Calls Try.prog 73 #[.int .i64 (i : Int), .pointer (some ⟨g, 0, none⟩), .pointer (some ⟨g', 0, none⟩)] w fun y w' => y = .returned (.bool (frP a b i)) ∧ ∃ n, w' = w.drewN n := by
  obtain ⟨ba, oa, rfl, ca⟩ := vs_at hs hi
  obtain ⟨bb, ob, rfl, cb⟩ := vs_at hs' hi'
  have Hz := hide (beq_txt (a.getD i []) (b.getD i []))
  have Hf := hide (show frP a b i = decide (a.getD i [] = b.getD i []) from rfl)
  generalize decide (a.getD i [] = b.getD i []) = z at *
  generalize a.getD i [] = x at *
  generalize b.getD i [] = y at *
  obtain ⟨n, hn⟩ : ∃ n, n = a.length := ⟨_, rfl⟩
  obtain ⟨m, hm⟩ : ∃ m, m = b.length := ⟨_, rfl⟩
  rw [← hn] at h1 hi
  rw [← hm] at h2 hi'
  clear hn hm hs hs'
  go_enter Try.func73, Try.ntmps73
  go_wp2
  go_quiet (fail)
  go_wp2
  go_ret
  exact ⟨by rw [Hf.out, ← Hz.out]; rfl, _, rfl⟩
set_option maxHeartbeats 400000 in
theorem same_back (a b : Ls) (A A' : Option Addr) (c c' i g g' : Nat) (P P' : Nat → Prop) (w : World) (h1 : w.cell? ⟨g, 0, none⟩ = some (.slice A a.length c)) (h2 : w.cell? ⟨g', 0, none⟩ = some (.slice A' b.length c'))
    (hs : Vs w P A c (texts a)) (hs' : Vs w P' A' c' (texts b)) (hi : i < a.length) (hi' : i < b.length) (hla : a.length ≤ 1000000) (hlb : b.length ≤ 1000000) :
    Calls Try.prog 74 #[.int .i64 (i : Int), .pointer (some ⟨g, 0, none⟩), .pointer (some ⟨g', 0, none⟩)] w fun y w' => y = .returned (.bool (bkP a b i)) ∧ ∃ n, w' = w.drewN n := by
  obtain ⟨ba, oa, rfl, ca⟩ := vs_at hs (k := a.length - 1 - i) (by omega)
  obtain ⟨bb, ob, rfl, cb⟩ := vs_at hs' (k := b.length - 1 - i) (by omega)
  have Hz := hide (beq_txt (a.getD (a.length - 1 - i) []) (b.getD (b.length - 1 - i) []))
  have Hf := hide (show bkP a b i = decide (a.getD (a.length - 1 - i) [] = b.getD (b.length - 1 - i) []) from rfl)
  generalize decide (a.getD (a.length - 1 - i) [] = b.getD (b.length - 1 - i) []) = z at *
  generalize a.getD (a.length - 1 - i) [] = x at *
  generalize b.getD (b.length - 1 - i) [] = y at *
  obtain ⟨n, hn⟩ : ∃ n, n = a.length := ⟨_, rfl⟩
  obtain ⟨m, hm⟩ : ∃ m, m = b.length := ⟨_, rfl⟩
  rw [← hn] at h1 hi hla ca
  rw [← hm] at h2 hi' hlb cb
  obtain ⟨p, hp⟩ : ∃ p, p = n - 1 - i := ⟨_, rfl⟩
  obtain ⟨q, hq⟩ : ∃ q, q = m - 1 - i := ⟨_, rfl⟩
  rw [← hp] at ca
  rw [← hq] at cb
  have hw1 : IntKind.i64.wrap ((n : Int) - 1) = (n : Int) - 1 := IntWalk.i64_in _ (by omega)
  have hw2 : IntKind.i64.wrap ((m : Int) - 1) = (m : Int) - 1 := IntWalk.i64_in _ (by omega)
  have hw3 : IntKind.i64.wrap ((n : Int) - 1 - i) = (p : Int) := by rw [IntWalk.i64_in _ (by omega)]; omega
  have hw4 : IntKind.i64.wrap ((m : Int) - 1 - i) = (q : Int) := by rw [IntWalk.i64_in _ (by omega)]; omega
  have hp' : p < n := by omega
  have hq' : q < m := by omega
  clear hn hm hs hs' hp hq
  go_enter Try.func74, Try.ntmps74
  go_wp2
  go_quiet (fail)
  go_wp2
  go_ret
  exact ⟨by rw [Hf.out, ← Hz.out]; rfl, _, rfl⟩
set_option maxHeartbeats 400000 in
theorem alike_front (a b : Ls) (A A' : Option Addr) (c c' m g g' : Nat) (w : World) (h1 : w.cell? ⟨g, 0, none⟩ = some (.slice A a.length c)) (h2 : w.cell? ⟨g', 0, none⟩ = some (.slice A' b.length c'))
    (hs : Vs w (fun b => b < w.heap.size) A c (texts a)) (hs' : Vs w (fun b => b < w.heap.size) A' c' (texts b)) (hm : m ≤ a.length) (hm' : m ≤ b.length) (hla : a.length ≤ 1000000) (hlb : b.length ≤ 1000000) :
    Calls Try.prog 72 #[.int .i64 (m : Int), .func (.func 73) #[] #[.pointer (some ⟨g, 0, none⟩), .pointer (some ⟨g', 0, none⟩)]] w fun y w' => (∃ n : Nat, y = .returned (.int .i64 (n : Int)) ∧ IsRun (frP a b) m n) ∧ ∃ n, w' = w.drewN n := by
  have Hc := fun (i n : Nat) (h : i < m) => same_front a b A A' c c' i g g' _ _ (w.drewN n) h1 h2 hs hs' (by omega) (by omega) hla hlb
  have HC := hide Hc
  have hm6 : m ≤ 1000000 := by omega
  clear h1 h2 hs hs' hla hlb hm hm' Hc
  go_enter Try.func72, Try.ntmps72
  go_wp2
  go_loopw [5] (fun i wr => ∃ k n : Nat, k ≤ m ∧ i = .int .i64 k ∧ (∀ j, j < k → frP a b j = true) ∧ wr = w.drewN n) (fun i _ => m - (intOf i).toNat)
  case atStart => exact ⟨0, 0, Nat.zero_le _, rfl, fun j h => absurd h (Nat.not_lt_zero _), rfl⟩
  case round =>
    obtain ⟨k, n, hk, rfl, hall, rfl⟩ := hrel
    have Hall := hide hall
    clear hall
    by_cases hlt : k < m
    · have HCk := hide (HC.out k n hlt)
      cases hp : frP a b k with
      | true =>
        rw [hp] at HCk
        have Hp := hide hp
        clear hp
        go_wp2_with fail
        refine HCk.out.mono ?_
        rintro y w2 ⟨rfl, n2, rfl⟩
        go_wp2
        refine ⟨⟨k + 1, n + n2, by omega, by go_num, fun j hj => ?_, rfl⟩, by simp [intOf]; omega⟩
        rcases Nat.lt_or_ge j k with hl | hl
        · exact Hall.out j hl
        · obtain rfl : j = k := by omega
          exact Hp.out
      | false =>
        rw [hp] at HCk
        have Hp := hide hp
        clear hp
        go_wp2_with fail
        refine HCk.out.mono ?_
        rintro y w2 ⟨rfl, n2, rfl⟩
        go_wp2
        go_ret
        exact ⟨⟨k, rfl, ⟨hk, Hall.out, fun _ => Hp.out⟩⟩, n + n2, rfl⟩
    · obtain rfl : k = m := by omega
      go_wp2
      go_ret
      exact ⟨⟨k, rfl, ⟨hk, Hall.out, fun h => absurd h hlt⟩⟩, n, rfl⟩
set_option maxHeartbeats 400000 in
theorem alike_back (a b : Ls) (A A' : Option Addr) (c c' m g g' : Nat) (w : World) (h1 : w.cell? ⟨g, 0, none⟩ = some (.slice A a.length c)) (h2 : w.cell? ⟨g', 0, none⟩ = some (.slice A' b.length c'))
    (hs : Vs w (fun b => b < w.heap.size) A c (texts a)) (hs' : Vs w (fun b => b < w.heap.size) A' c' (texts b)) (hm : m ≤ a.length) (hm' : m ≤ b.length) (hla : a.length ≤ 1000000) (hlb : b.length ≤ 1000000) :
    Calls Try.prog 72 #[.int .i64 (m : Int), .func (.func 74) #[] #[.pointer (some ⟨g, 0, none⟩), .pointer (some ⟨g', 0, none⟩)]] w fun y w' => (∃ n : Nat, y = .returned (.int .i64 (n : Int)) ∧ IsRun (bkP a b) m n) ∧ ∃ n, w' = w.drewN n := by
  have Hc := fun (i n : Nat) (h : i < m) => same_back a b A A' c c' i g g' _ _ (w.drewN n) h1 h2 hs hs' (by omega) (by omega) hla hlb
  have HC := hide Hc
  have hm6 : m ≤ 1000000 := by omega
  clear h1 h2 hs hs' hla hlb hm hm' Hc
  go_enter Try.func72, Try.ntmps72
  go_wp2
  go_loopw [5] (fun i wr => ∃ k n : Nat, k ≤ m ∧ i = .int .i64 k ∧ (∀ j, j < k → bkP a b j = true) ∧ wr = w.drewN n) (fun i _ => m - (intOf i).toNat)
  case atStart => exact ⟨0, 0, Nat.zero_le _, rfl, fun j h => absurd h (Nat.not_lt_zero _), rfl⟩
  case round =>
    obtain ⟨k, n, hk, rfl, hall, rfl⟩ := hrel
    have Hall := hide hall
    clear hall
    by_cases hlt : k < m
    · have HCk := hide (HC.out k n hlt)
      cases hp : bkP a b k with
      | true =>
        rw [hp] at HCk
        have Hp := hide hp
        clear hp
        go_wp2_with fail
        refine HCk.out.mono ?_
        rintro y w2 ⟨rfl, n2, rfl⟩
        go_wp2
        refine ⟨⟨k + 1, n + n2, by omega, by go_num, fun j hj => ?_, rfl⟩, by simp [intOf]; omega⟩
        rcases Nat.lt_or_ge j k with hl | hl
        · exact Hall.out j hl
        · obtain rfl : j = k := by omega
          exact Hp.out
      | false =>
        rw [hp] at HCk
        have Hp := hide hp
        clear hp
        go_wp2_with fail
        refine HCk.out.mono ?_
        rintro y w2 ⟨rfl, n2, rfl⟩
        go_wp2
        go_ret
        exact ⟨⟨k, rfl, ⟨hk, Hall.out, fun _ => Hp.out⟩⟩, n + n2, rfl⟩
    · obtain rfl : k = m := by omega
      go_wp2
      go_ret
      exact ⟨⟨k, rfl, ⟨hk, Hall.out, fun h => absurd h hlt⟩⟩, n, rfl⟩
end Go.Proofs.Ytghnieddokhagaa.Df
namespace Go.Proofs.Ytghnieddokhagaa.Df
open Go Go.RowKit Kt Lw Li

abbrev tI : TypeId := 3
abbrev tT : TypeId := 129
/-- a row of numbers of the call's own, as long as it may be -/
def Nums (w : World) (B g N : Nat) (L : List Int) : Prop := w.ownsRow B tI 1 (.slice (some ⟨g, 0, none⟩) N N) N (nums .i64 L)
theorem Nums.len {w : World} {B g N : Nat} {L : List Int} (h : Nums w B g N L) : L.length = N := by
  have := h.1
  rw [nums_len] at this
  omega
theorem Nums.cell {w : World} {B g N : Nat} {L : List Int} (h : Nums w B g N L) {k : Nat} (hk : k < N) : w.cell? ⟨g, k, none⟩ = some (.int .i64 (L.getD k 0)) := by
  rw [World.ownsRow.cellAt h k (by omega), nums_at _ _ _ (by rw [h.len]; exact hk)]
theorem Nums.lt {w : World} {B g N : Nat} {L : List Int} (h : Nums w B g N L) : B ≤ g ∧ g < w.heap.size := World.ownsRow.lt h g rfl
theorem Nums.kept {w w' : World} {B g N : Nat} {L : List Int} (h : Nums w B g N L) (hb : Below w.heap.size w w') : Nums w' B g N L :=
  World.ownsRow.kept (row := none) h ⟨hb.os, hb.tape, hb.output, hb.size, fun k hk _ => hb.block k hk⟩ (.inr (by simp [Value.ownBlock]))
theorem Nums.drew {w : World} {B g N : Nat} {L : List Int} (h : Nums w B g N L) : Nums w.drew B g N L := h
theorem Nums.drewN {w : World} {B g N : Nat} {L : List Int} (h : Nums w B g N L) (n : Nat) : Nums (w.drewN n) B g N L := h
theorem Nums.put {w : World} {B g N : Nat} {L : List Int} (h : Nums w B g N L) (k : Nat) (z : Int) : Nums (w.setCell ⟨g, k, none⟩ (.int .i64 z)) B g N (L.set k z) := by
  have := (World.ownsRow.stored h k (.int .i64 z)).1
  unfold Nums nums
  rw [List.map_set]
  exact this
theorem Nums.free {w : World} {B g N : Nat} {L : List Int} (h : Nums w B g N L) (k : Nat) : w.frozen? ⟨g, k, none⟩ = false := World.ownsRow.frozenAt h k
theorem Nums.off {w : World} {B g N : Nat} {L : List Int} (h : Nums w B g N L) {b : Nat} (hb : b ≠ g) (k : Nat) (u : Value) : Nums (w.setCell ⟨b, k, none⟩ u) B g N L :=
  World.ownsRow.kept (row := some b) h (grown_put (World.grownBy.refl w (some b)) u) (.inr (by simp [Value.ownBlock]; exact fun e => hb e.symm))
theorem Nums.made (w : World) (B N : Nat) (hB : B ≤ w.heap.size) (hN : N ≤ 1000000) : Nums (w.alloc (.cells (madeCells #[.int .i64 0] N) tI)) B w.heap.size N (List.replicate N 0) := by
  have := World.ownsRow_lit (e := tI) (size := 1) (base := B) w (madeCells #[.int .i64 0] N) N hB (by unfold maxLen; omega) (by simp [madeCells])
  unfold Nums nums
  rw [List.map_replicate, ← toList_madeCells_one]
  exact this

set_option maxHeartbeats 400000 in
theorem at_any (w : World) (B g N W i j : Nat) (L : List Int) (h : Nums w B g N L) (hN : N ≤ 1000000) (_hW : W ≤ 1000000) (_hi : i ≤ 1000000) (hj : j ≤ 1000000) (hk : i * W + j < N) :
    Calls Try.prog 90 #[.agg #[.int .i64 (W : Int), .slice (some ⟨g, 0, none⟩) N N], .int .i64 (i : Int), .int .i64 (j : Int)] w fun y w' => y = .returned (.int .i64 (L.getD (i * W + j) 0)) ∧ Below w.heap.size w w' := by
  obtain ⟨q, hq⟩ : ∃ q, q = i * W := ⟨_, rfl⟩
  have hqi : (i : Int) * (W : Int) = (q : Int) := by rw [hq]; simp
  rw [← hq] at hk ⊢
  obtain ⟨k, hkq⟩ : ∃ k, k = q + j := ⟨_, rfl⟩
  rw [← hkq] at hk ⊢
  have hkq' : (q : Int) + (j : Int) = (k : Int) := by omega
  have hq6 : q ≤ 1000000 := by omega
  have hw1 : wrap64 ((i : Int) * (W : Int)) = (q : Int) := by rw [hqi]; unfold wrap64; omega
  have hc := (h.kept ((Below.refl _ w).alloc (Nat.le_refl _) (.cells #[.int .i64 (W : Int), .slice (some ⟨g, 0, none⟩) N N] tT))).cell hk
  have hg := h.lt.2
  generalize L.getD k 0 = z at *
  clear hq hkq h
  go_enter Try.func90, Try.ntmps90
  go_wp2
  go_ret
  exact ⟨rfl, (Below.refl _ _).alloc (Nat.le_refl _) _⟩

theorem idx_inj {W i j i' j' : Nat} (hj : j < W) (hj' : j' < W) (h : i * W + j = i' * W + j') : i = i' ∧ j = j' := by
  have h1 : (i * W + j) / W = i := by rw [Nat.mul_comm, Nat.mul_add_div (by omega), Nat.div_eq_of_lt hj, Nat.add_zero]
  have h2 : (i' * W + j') / W = i' := by rw [Nat.mul_comm, Nat.mul_add_div (by omega), Nat.div_eq_of_lt hj', Nat.add_zero]
  have h3 : i = i' := by rw [← h1, ← h2, h]
  subst h3
  exact ⟨rfl, by omega⟩
theorem idx_lt {W i j m : Nat} (hi : i ≤ m) (hj : j < W) : i * W + j < (m + 1) * W := by
  have : i * W ≤ m * W := Nat.mul_le_mul_right W hi
  rw [Nat.succ_mul]
  omega
/-- the table is filled behind line i, and on line i behind place j -/
def Filled (x y : Ls) (i j : Nat) (L : List Int) : Prop :=
  ∀ i' j' : Nat, i' ≤ x.length → j' ≤ y.length → (i < i' ∨ j' = y.length ∨ (i = i' ∧ j ≤ j')) → L.getD (i' * (y.length + 1) + j') 0 = (lcs (x.drop i') (y.drop j') : Nat)
theorem set_getD (L : List Int) (k k' : Nat) (z : Int) (hk : k < L.length) : (L.set k z).getD k' 0 = if k = k' then z else L.getD k' 0 := by
  rw [List.getD_eq_getElem?_getD, List.getElem?_set, List.getD_eq_getElem?_getD]
  by_cases h : k = k'
  · subst h; simp [hk]
  · simp [h]
theorem drop_getD_cons (x : Ls) (i : Nat) (h : i < x.length) : x.drop i = x.getD i [] :: x.drop (i + 1) := by
  rw [List.drop_eq_getElem_cons h]
  simp [List.getElem?_eq_getElem h]
theorem Filled.step {x y : Ls} {i j : Nat} {L : List Int} (h : Filled x y i (j + 1) L) (hi : i < x.length) (hj : j < y.length) (hL : L.length = (x.length + 1) * (y.length + 1)) (z : Int)
    (hz : z = if x.getD i [] = y.getD j [] then L.getD ((i + 1) * (y.length + 1) + (j + 1)) 0 + 1 else max (L.getD ((i + 1) * (y.length + 1) + j) 0) (L.getD (i * (y.length + 1) + (j + 1)) 0)) :
    Filled x y i j (L.set (i * (y.length + 1) + j) z) := by
  intro i' j' hi' hj' hc
  rw [set_getD _ _ _ _ (by rw [hL]; exact idx_lt (by omega) (by omega))]
  by_cases he : i * (y.length + 1) + j = i' * (y.length + 1) + j'
  · obtain ⟨rfl, rfl⟩ := idx_inj (by omega) (by omega) he
    rw [if_pos rfl, hz, drop_getD_cons x _ hi, drop_getD_cons y _ hj, lcs_cons, h (i + 1) (j + 1) (by omega) (by omega) (.inl (by omega)), h (i + 1) j (by omega) (by omega) (.inl (by omega)), h i (j + 1) (by omega) (by omega) (.inr (.inr ⟨rfl, Nat.le_refl _⟩)),
      ← drop_getD_cons x _ hi, ← drop_getD_cons y _ hj]
    split <;> omega
  · rw [if_neg he]
    refine h i' j' hi' hj' ?_
    rcases hc with h1 | h1 | ⟨h1, h2⟩
    · exact .inl h1
    · exact .inr (.inl h1)
    · right; right
      refine ⟨h1, ?_⟩
      rcases Nat.lt_or_ge j j' with h3 | h3
      · exact h3
      · exfalso; apply he; rw [h1, show j = j' from by omega]
theorem Filled.first (x y : Ls) (N : Nat) : Filled x y x.length 0 (List.replicate N 0) := by
  intro i' j' hi' hj' hc
  have h0 : (List.replicate N (0 : Int)).getD (i' * (y.length + 1) + j') 0 = 0 := by
    rw [List.getD_eq_getElem?_getD, List.getElem?_replicate]
    split <;> rfl
  rw [h0]
  rcases hc with h1 | h1 | ⟨h1, _⟩
  · omega
  · rw [h1, List.drop_length, lcs_nil_right]; rfl
  · rw [← h1, List.drop_length, lcs_nil_left]; rfl
theorem Filled.line {x y : Ls} {i : Nat} {L : List Int} (h : Filled x y (i + 1) 0 L) : Filled x y i y.length L := by
  intro i' j' hi' hj' hc
  refine h i' j' hi' hj' ?_
  rcases hc with h1 | h1 | ⟨h1, h2⟩
  · rcases Nat.lt_or_ge (i + 1) i' with h3 | h3
    · exact .inl h3
    · exact .inr (.inr ⟨by omega, Nat.zero_le _⟩)
  · exact .inr (.inl h1)
  · exact .inr (.inl (by omega))

theorem infoInt : (Try.prog.info? 3).map (fun i => (i.zero, i.size, i.bytes)) = some (some (.int .i64 0), 1, 8) := by kernel_rfl
theorem make_nums (N : Nat) (hN : N ≤ 1000000) : ∃ C : Array Value, (∀ w : World, (Instr.makeSlice 107 (.int .i64 (N : Int)) (.int .i64 (N : Int))).run Try.prog w = .ok (.slice (some ⟨w.heap.size, 0, none⟩) N N) (w.alloc (.cells C tI))) ∧
    ∀ (w : World) (B : Nat), B ≤ w.heap.size → Nums (w.alloc (.cells C tI)) B w.heap.size N (List.replicate N 0) := by
  obtain ⟨i0, hi0, hz0, hz1, hz2⟩ := info_parts infoInt
  refine ⟨madeCells #[.int .i64 0] N, fun w => ?_, fun w B hB => Nums.made w B N hB hN⟩
  have hr := run_makeSlice (P := Try.prog) w 107 3 i0 (.int .i64 0) Try.underlying107 hi0 hz0 .i64 .i64 (N : Int) (N : Int) (by omega) (Int.le_refl _) (by rw [hz1]; simp; omega) (by rw [hz2]; omega) (by omega)
  rw [hz1, Int.toNat_natCast, Nat.mul_one] at hr
  exact hr

end Go.Proofs.Ytghnieddokhagaa.Df
namespace Go.Proofs.Ytghnieddokhagaa.Df
open Go Go.RowKit Kt Lw Li

theorem sizeT : (Try.prog.info? tT).map (·.size) = some 2 := by kernel_rfl
set_option maxHeartbeats 2000000 in
set_option maxRecDepth 100000 in
theorem longest_any (x y : Ls) (A A' : Option Addr) (c c' : Nat) (P P' : Nat → Prop) (w : World) (hs : Vs w P A c (texts x)) (hs' : Vs w P' A' c' (texts y)) (hx : x.length ≤ 100000) (hy : y.length ≤ 100000)
    (hxy : (x.length + 1) * (y.length + 1) ≤ 1000000) :
    Calls Try.prog 89 #[.slice A x.length c, .slice A' y.length c'] w fun e w' => ∃ g L, e = .returned (.agg #[.int .i64 ((y.length + 1 : Nat) : Int), .slice (some ⟨g, 0, none⟩) ((x.length + 1) * (y.length + 1)) ((x.length + 1) * (y.length + 1))]) ∧
      Nums w' w.heap.size g ((x.length + 1) * (y.length + 1)) L ∧ Filled x y 0 0 L ∧ Below w.heap.size w w' := by
  have Hs := hide hs.bound
  have Hs' := hide hs'.bound
  obtain ⟨N, hN⟩ : ∃ N, N = (x.length + 1) * (y.length + 1) := ⟨_, rfl⟩
  have Hf := hide (Filled.first x y N)
  have HN := hide hN
  obtain ⟨m, hm⟩ : ∃ m, m = x.length := ⟨_, rfl⟩
  obtain ⟨n, hn⟩ : ∃ n, n = y.length := ⟨_, rfl⟩
  rw [← hN] at hxy ⊢
  obtain ⟨W, hW⟩ : ∃ W, W = n + 1 := ⟨_, rfl⟩
  have hW' : (n : Int) + 1 = (W : Int) := by omega
  have hmul : ((m : Int) + 1) * (W : Int) = (N : Int) := by rw [hN, hm, hW, hn]; simp
  rw [← hm] at hx
  rw [← hn] at hy ⊢
  rw [← hm, ← hW]
  have Hm := hide hm
  have Hn := hide hn
  have HW := hide hW
  obtain ⟨C, hmake, hC⟩ := make_nums N hxy
  have HC := hide hC
  clear hs hs' hN hm hn hC hW
  go_enter Try.func89, Try.ntmps89
  go_wp2
  have hB1 : Below w.heap.size w (w.alloc (.cells #[.int .i64 0, .slice none 0 0] tT)) := (Below.refl _ _).alloc (Nat.le_refl _) _
  have hs1 : w.heap.size ≤ (w.alloc (.cells #[.int .i64 0, .slice none 0 0] tT)).heap.size := hB1.size
  have hn1 := HC.out (w.alloc (.cells #[.int .i64 0, .slice none 0 0] tT)) w.heap.size hs1
  have hn2 := hn1.kept ((Below.refl _ _).alloc (Nat.le_refl _) (.cells #[.int .i64 (W : Int), .slice (some ⟨w.heap.size + 1, 0, none⟩) N N] tT))
  have hr2 := ((Row.fresh w tT #[.int .i64 0, .slice none 0 0]).alloc (.cells C tI)).alloc (.cells #[.int .i64 (W : Int), .slice (some ⟨w.heap.size + 1, 0, none⟩) N N] tT)
  have ht2 := Row.fresh ((w.alloc (.cells #[.int .i64 0, .slice none 0 0] tT)).alloc (.cells C tI)) tT #[.int .i64 (W : Int), .slice (some ⟨w.heap.size + 1, 0, none⟩) N N]
  have hB2 := (hB1.alloc hs1 (.cells C tI)).alloc (by simp; omega) (.cells #[.int .i64 (W : Int), .slice (some ⟨w.heap.size + 1, 0, none⟩) N N] tT)
  simp only [World.size_alloc] at hn2 ht2
  obtain ⟨g, hg⟩ : ∃ g, g = w.heap.size + 1 := ⟨_, rfl⟩
  obtain ⟨gt, hgt⟩ : ∃ gt, gt = w.heap.size + 1 + 1 := ⟨_, rfl⟩
  obtain ⟨B, hB⟩ : ∃ B, B = w.heap.size := ⟨_, rfl⟩
  rw [← hgt] at ht2 ⊢
  rw [← hg] at hn2 ht2 hr2 hB2 ⊢
  have Hne := hide (show B ≠ g ∧ B ≠ gt ∧ g ≠ gt ∧ B ≤ g ∧ B ≤ gt by refine ⟨?_, ?_, ?_, ?_, ?_⟩ <;> omega)
  obtain ⟨w3, hw3⟩ : ∃ w3, w3 = ((w.alloc (.cells #[.int .i64 0, .slice none 0 0] tT)).alloc (.cells C tI)).alloc (.cells #[.int .i64 (W : Int), .slice (some ⟨g, 0, none⟩) N N] tT) := ⟨_, rfl⟩
  rw [← hw3] at hn2 ht2 hr2 hB2 ⊢
  rw [← hB] at hn2 hr2 hB2 ⊢
  have HB := hide hB
  have HBw := hide (show B ≤ w.heap.size by omega)
  clear hn1 hB1 hs1 hg hgt hB HC hmake hmul hw3
  have Hn2 := hide hn2
  have Hr2 := hide hr2
  have Ht2 := hide ht2
  have HB2 := hide hB2
  clear hn2 hr2 ht2 hB2
  go_loopw [6] (fun i wr => ∃ (k : Nat) (z : Int) (L : List Int), k ≤ m ∧ i = .int .i64 z ∧ z + 1 = (k : Int) ∧ Nums wr B g N L ∧ Filled x y k 0 L ∧ Row wr gt tT [.int .i64 (W : Int), .slice (some ⟨g, 0, none⟩) N N] ∧ Row wr B tT [.int .i64 0, .slice none 0 0] ∧ Below B w wr) (fun i _ => (intOf i + 1).toNat)
  case atStart => exact ⟨m, _, _, Nat.le_refl _, rfl, by omega, Hn2.out, by rw [Hm.out]; exact Hf.out, Ht2.out, Hr2.out, HB2.out⟩
  case round =>
    obtain ⟨k, z, L, hk, rfl, hz, hnu, hfi, hrt, hrr, hb⟩ := hrel
    have Hnu := hide hnu
    have Hfi := hide hfi
    have Hrt := hide hrt
    have Hrr := hide hrr
    have Hb := hide hb
    have ct0 := hrt.cell 0
    have ct1 := hrt.cell 1
    simp only [List.getElem?_cons_zero, List.getElem?_cons_succ] at ct0 ct1
    clear hnu hfi hrt hrr hb
    by_cases hk0 : k = 0
    · obtain rfl : z = -1 := by omega
      obtain rfl := hk0
      clear hz
      have cr0 := Hrr.out.cell 0
      have cr1 := Hrr.out.cell 1
      have fr0 := Hrr.out.free 0
      have fr1 := Hrr.out.free 1
      simp only [List.getElem?_cons_zero, List.getElem?_cons_succ] at cr0 cr1
      go_wp2
      have hrf := (Hrr.out.put 0 (.int .i64 (W : Int))).put 1 (.slice (some ⟨g, 0, none⟩) N N)
      have hnf : Nums ((wr.setCell ⟨B, 0, none⟩ (.int .i64 (W : Int))).setCell ⟨B, 1, none⟩ (.slice (some ⟨g, 0, none⟩) N N)) B g N L := (Hnu.out.off Hne.out.1 _ _).off Hne.out.1 _ _
      have hbf := below_put (below_put Hb.out (g := B) (i := 0) (Nat.le_refl _) (.int .i64 (W : Int))) (g := B) (i := 1) (Nat.le_refl _) (.slice (some ⟨g, 0, none⟩) N N)
      refine bodyPost_ret (results_cell_row rfl _ _ B tT #[.int .i64 (W : Int), .slice (some ⟨g, 0, none⟩) N N] (0, 0) _ rfl hrf Try.underlying129 rfl sizeT) rfl ⟨g, rfl, L, ?_, Hfi.out, ?_⟩
      · rw [← HB.out]; exact hnf
      · rw [← HB.out]; exact hbf
    · obtain ⟨i, rfl⟩ : ∃ i : Nat, z = i := ⟨z.toNat, by omega⟩
      obtain rfl : k = i + 1 := by omega
      clear hz hk0 ct0 ct1
      go_wp2
      go_loopw [7] (fun j w2 => ∃ (l : Nat) (z : Int) (L : List Int), l ≤ n ∧ j = .int .i64 z ∧ z + 1 = (l : Int) ∧ Nums w2 B g N L ∧ Filled x y i l L ∧ Row w2 gt tT [.int .i64 (W : Int), .slice (some ⟨g, 0, none⟩) N N] ∧ Row w2 B tT [.int .i64 0, .slice none 0 0] ∧ Below B w w2) (fun j _ => (intOf j + 1).toNat)
      case atStart => exact ⟨n, _, _, Nat.le_refl _, rfl, by omega, Hnu.out, by rw [Hn.out]; exact Hfi.out.line, Hrt.out, Hrr.out, Hb.out⟩
      case round =>
        obtain ⟨l, z, L2, hl, rfl, hz, hnu, hfi, hrt, hrr, hb⟩ := hrel
        have Hnu2 := hide hnu
        have Hfi2 := hide hfi
        have Hrt2 := hide hrt
        have Hrr2 := hide hrr
        have Hb2 := hide hb
        have ct0 := hrt.cell 0
        have ct1 := hrt.cell 1
        simp only [List.getElem?_cons_zero, List.getElem?_cons_succ] at ct0 ct1
        clear hnu hfi hrt hrr hb
        by_cases hl0 : l = 0
        · obtain rfl : z = -1 := by omega
          obtain rfl := hl0
          clear hz
          go_wp2
          exact ⟨⟨i, (i : Int) - 1, L2, by omega, rfl, by omega, Hnu2.out, Hfi2.out, Hrt2.out, Hrr2.out, Hb2.out⟩, by simp only [intOf]; omega⟩
        · obtain ⟨j, rfl⟩ : ∃ j : Nat, z = j := ⟨z.toNat, by omega⟩
          obtain rfl : l = j + 1 := by omega
          clear hz hl0
          obtain ⟨i1, hi1⟩ : ∃ i1, i1 = i + 1 := ⟨_, rfl⟩
          obtain ⟨j1, hj1⟩ : ∃ j1, j1 = j + 1 := ⟨_, rfl⟩
          have hiN : i + 1 ≤ m := hk
          have hjN : j + 1 ≤ n := hl
          have hw1 : IntKind.i64.wrap ((i : Int) + 1) = (i1 : Int) := by rw [IntWalk.i64_in _ (by omega)]; omega
          have hw2 : IntKind.i64.wrap ((j : Int) + 1) = (j1 : Int) := by rw [IntWalk.i64_in _ (by omega)]; omega
          have ix1 : i1 * W + j < N := by rw [HN.out, ← Hm.out, ← Hn.out, ← HW.out]; exact idx_lt (by omega) (by have := HW.out; omega)
          have ix2 : i * W + j1 < N := by rw [HN.out, ← Hm.out, ← Hn.out, ← HW.out]; exact idx_lt (by omega) (by have := HW.out; omega)
          have ix3 : i1 * W + j1 < N := by rw [HN.out, ← Hm.out, ← Hn.out, ← HW.out]; exact idx_lt (by omega) (by have := HW.out; omega)
          have ix4 : i * W + j < N := by rw [HN.out, ← Hm.out, ← Hn.out, ← HW.out]; exact idx_lt (by omega) (by have := HW.out; omega)
          have hW6 : W ≤ 1000000 := by have := HW.out; omega
          have hu := Hfi2.out i1 j (by have := Hm.out; omega) (by have := Hn.out; omega) (.inl (by omega))
          have hv := Hfi2.out i j1 (by have := Hm.out; omega) (by have := Hn.out; omega) (.inr (.inr ⟨rfl, by omega⟩))
          have ht := Hfi2.out i1 j1 (by have := Hm.out; omega) (by have := Hn.out; omega) (.inl (by omega))
          rw [← Hn.out, ← HW.out] at hu hv ht
          have hu6 := lcs_le_left (x.drop i1) (y.drop j)
          have hv6 := lcs_le_left (x.drop i) (y.drop j1)
          have ht6 := lcs_le_left (x.drop i1) (y.drop j1)
          rw [List.length_drop, ← Hm.out] at hu6 hv6 ht6
          have Hstep := hide (fun z hz => Hfi2.out.step (by have := Hm.out; omega) (by have := Hn.out; omega) (by rw [Hnu2.out.len, HN.out]) z hz)
          rw [← Hn.out, ← HW.out, ← hi1, ← hj1, hu, hv, ht] at Hstep
          have Hc1 := hide (fun (w : World) (h : Nums w B g N L2) => at_any w B g N W i1 j L2 h hxy hW6 (by omega) (by omega) ix1)
          have Hc2 := hide (fun (w : World) (h : Nums w B g N L2) => at_any w B g N W i j1 L2 h hxy hW6 (by omega) (by omega) ix2)
          have Hc3 := hide (fun (w : World) (h : Nums w B g N L2) => at_any w B g N W i1 j1 L2 h hxy hW6 (by omega) (by omega) ix3)
          rw [hu] at Hc1
          rw [hv] at Hc2
          rw [ht] at Hc3
          generalize lcs (x.drop i1) (y.drop j) = u at *
          generalize lcs (x.drop i) (y.drop j1) = v at *
          generalize lcs (x.drop i1) (y.drop j1) = t at *
          obtain ⟨q, hq⟩ : ∃ q, q = i * W := ⟨_, rfl⟩
          have hqi : (i : Int) * (W : Int) = (q : Int) := by rw [hq]; simp
          rw [← hq] at Hstep ix4
          obtain ⟨kk, hkk⟩ : ∃ kk, kk = q + j := ⟨_, rfl⟩
          rw [← hkk] at Hstep ix4
          have hkk' : (q : Int) + (j : Int) = (kk : Int) := by omega
          have Hq := hide hqi
          have Hkk := hide hkk'
          have Hix := hide ix4
          have Hij := hide (show (i : Int) + 1 = i1 ∧ (j : Int) + 1 = j1 by constructor <;> omega)
          have ht7 : t ≤ 100000 := by omega
          clear hu hv ht hu6 hv6 ht6 ix1 ix2 ix3 ix4 hi1 hj1 hq hkk hqi hkk'
          go_wp2
          refine Rg.wp_region_ord (fun w' => w'.cell? ⟨gt, 0, none⟩ = some (.int .i64 (W : Int)) ∧ w'.cell? ⟨gt, 1, none⟩ = some (.slice (some ⟨g, 0, none⟩) N N)) [(0, true), (1, true), (2, true), (3, true), (5, true), (6, true), (7, true), (8, true), (4, false), (9, false), (10, true), (11, true)] (by kernel_rfl) (by kernel_rfl) ?_
          simp only [Rg.pick, List.map_cons, List.map_nil, List.getD_cons_zero, List.getD_cons_succ]
          iterate 8 (refine Rg.ord_quiet (v := ?_) rfl (fun w' hS => ?_) ⟨ct0, ct1⟩ ?_; rotate_left; (obtain ⟨s0, s1⟩ := hS; go_simp; with_reducible rfl); simp only [Act.put, List.setIfInBounds_toArray, List.set_cons_succ, List.set_cons_zero])
          refine Rg.ord_loud rfl (fun K hK => ?_)
          go_simp
          refine (Hc1.out _ Hnu2.out.drew).mono ?_
          rintro e w4 ⟨rfl, hb4⟩
          have hbw : Below w4.heap.size w4 w4 := Below.refl _ _
          have Hnu4 := hide (Hnu2.out.drew.kept hb4)
          have Hrt4 := hide (Hrt2.out.drew.below hb4 Hrt2.out.lt)
          have Hrr4 := hide (Hrr2.out.drew.below hb4 Hrr2.out.lt)
          have Hb4 := hide (Hb2.out.drew.trans (hb4.mono (Nat.le_trans HBw.out Hb2.out.size)))
          clear hb4 ct0 ct1 hbw
          have ct0 := Hrt4.out.cell 0
          have ct1 := Hrt4.out.cell 1
          simp only [List.getElem?_cons_zero, List.getElem?_cons_succ] at ct0 ct1
          refine hK _ _ (fun _ => ⟨ct0, ct1⟩) ?_
          clear hK K
          refine Rg.ord_loud rfl (fun K hK => ?_)
          go_simp
          refine (Hc2.out _ Hnu4.out).mono ?_
          rintro e w5 ⟨rfl, hb5⟩
          have Hnu5 := hide (Hnu4.out.kept hb5)
          have Hrt5 := hide (Hrt4.out.below hb5 Hrt4.out.lt)
          have Hrr5 := hide (Hrr4.out.below hb5 Hrr4.out.lt)
          have Hb5 := hide (Hb4.out.trans (hb5.mono (Nat.le_trans HBw.out Hb4.out.size)))
          clear hb5 ct0 ct1
          have ct0 := Hrt5.out.cell 0
          have ct1 := Hrt5.out.cell 1
          simp only [List.getElem?_cons_zero, List.getElem?_cons_succ] at ct0 ct1
          refine hK _ _ (fun _ => ⟨ct0, ct1⟩) ?_
          clear hK K
          obtain ⟨best, hbe⟩ : ∃ best : Nat, best = max u v := ⟨_, rfl⟩
          have hbest : (if u < v then (v : Int) else (u : Int)) = (best : Int) := by split <;> omega
          have Hbe := hide (show max (u : Int) (v : Int) = (best : Int) by omega)
          clear hbe
          iterate 2 (refine Rg.ord_quiet (v := ?_) rfl (fun w' hS => ?_) ⟨ct0, ct1⟩ ?_; rotate_left; (obtain ⟨s0, s1⟩ := hS; go_simp; with_reducible rfl); simp only [Act.put, List.setIfInBounds_toArray, List.set_cons_succ, List.set_cons_zero])
          refine Rg.ord_nil ?_
          clear hw1 hw2 hbest
          have hbb : Below w.heap.size w w5 := by rw [← HB.out]; exact Hb5.out
          obtain ⟨ba, oa, rfl, ca⟩ := Hs.out.text hbb (k := i) (by have := Hm.out; omega)
          obtain ⟨bb, ob, rfl, cb⟩ := Hs'.out.text hbb (k := j) (by have := Hn.out; omega)
          obtain ⟨X, hX⟩ : ∃ X, X = x.getD i [] := ⟨_, rfl⟩
          obtain ⟨Y, hY⟩ : ∃ Y, Y = y.getD j [] := ⟨_, rfl⟩
          rw [← hX] at ca Hstep
          rw [← hY] at cb Hstep
          clear hbb hX hY
          have him : i < m := hk
          have hjn : j < n := hl
          by_cases hxy' : X = Y
          · have hbq : (X == Y) = true := by rw [hxy']; exact beq_self_eq_true _
            have Hst := hide (Hstep.out ((t : Int) + 1) (if_pos hxy').symm)
            clear hxy' Hstep
            go_wp2
            go_quiet (fail)
            have ij1 := Hij.out.1
            have ij2 := Hij.out.2
            go_wp2_with fail
            refine (Hc3.out _ (Hnu5.out.drewN nq)).mono ?_
            rintro e w6 ⟨rfl, hb6⟩
            have Hnu6 := hide ((Hnu5.out.drewN nq).kept hb6)
            have Hrt6 := hide ((Hrt5.out.drewN nq).below hb6 Hrt5.out.lt)
            have Hrr6 := hide ((Hrr5.out.drewN nq).below hb6 Hrr5.out.lt)
            have Hb6 := hide ((below_drewN Hb5.out nq).trans (hb6.mono (Nat.le_trans HBw.out Hb5.out.size)))
            clear hb6 ct0 ct1 ca cb
            have ct0 := Hrt6.out.cell 0
            have ct1 := Hrt6.out.cell 1
            simp only [List.getElem?_cons_zero, List.getElem?_cons_succ] at ct0 ct1
            have cg := Hnu6.out.cell Hix.out
            have fg := Hnu6.out.free kk
            have hqi := Hq.out
            have hkk' := Hkk.out
            have hixx := Hix.out
            go_wp2
            exact ⟨⟨j, (j : Int) - 1, L2.set kk ((t : Int) + 1), by omega, rfl, by omega, Hnu6.out.put kk _, Hst.out, Hrt6.out.off (Ne.symm Hne.out.2.2.1) _, Hrr6.out.off Hne.out.1 _, below_put Hb6.out (g := g) (i := kk) Hne.out.2.2.2.1 _⟩, by simp only [intOf]; omega⟩
          · have hbq : (X == Y) = false := by rw [beq_eq_false_iff_ne]; exact hxy'
            have Hst := hide (Hstep.out (best : Int) (by rw [if_neg hxy', Hbe.out]))
            clear hxy' Hstep
            go_wp2
            go_quiet (fail)
            have hnu6 := Hnu5.out.drewN nq
            have Hrt6 := hide (Hrt5.out.drewN nq)
            have Hrr6 := hide (Hrr5.out.drewN nq)
            have Hb6 := hide (below_drewN Hb5.out nq)
            obtain ⟨w6, hw6⟩ : ∃ w6, w6 = w5.drewN nq := ⟨_, rfl⟩
            rw [← hw6] at hnu6 Hrt6 Hrr6 Hb6 ⊢
            have Hnu6 := hide hnu6
            clear hw6 hnu6 ct0 ct1 ca cb
            have ct0 := Hrt6.out.cell 0
            have ct1 := Hrt6.out.cell 1
            simp only [List.getElem?_cons_zero, List.getElem?_cons_succ] at ct0 ct1
            have cg := Hnu6.out.cell Hix.out
            have fg := Hnu6.out.free kk
            have hqi := Hq.out
            have hkk' := Hkk.out
            have hixx := Hix.out
            go_wp2
            exact ⟨⟨j, (j : Int) - 1, L2.set kk (best : Int), by omega, rfl, by omega, Hnu6.out.put kk _, Hst.out, Hrt6.out.off (Ne.symm Hne.out.2.2.1) _, Hrr6.out.off Hne.out.1 _, below_put Hb6.out (g := g) (i := kk) Hne.out.2.2.2.1 _⟩, by simp only [intOf]; omega⟩
end Go.Proofs.Ytghnieddokhagaa.Df
