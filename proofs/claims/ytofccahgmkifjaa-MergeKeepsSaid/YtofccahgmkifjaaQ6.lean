/-
  slices.Equal at texts; a cluster's own functions in memory.
-/
import Derived.BigQuiet
import Derived.Test.YtofccahgmkifjaaQ1
import Derived.Test.YtofccahgmkifjaaQ4
import Derived.Test.YtofccahgmkifjaaQ2
import Derived.Laws.ResultCell
import Derived.Deep.Slices
import Derived.Deep.Fields
import Derived.Deep.Strs
namespace Go.Proofs.Ytofccahgmkifjaa.Al
open Go Go.RowKit Kt Lw Li Df
attribute [local irreducible] ByteArray.toList

set_option maxHeartbeats 1000000 in
set_option maxRecDepth 100000 in
theorem equal_any (l r : List (List UInt8)) (A A' : Option Addr) (c c' : Nat) (P P' : Nat → Prop) (w : World) (hs : Vs w P A c (texts l)) (hs' : Vs w P' A' c' (texts r)) (hl : l.length ≤ 9223372036854775807) :
    Calls Try.prog 67 #[.slice A l.length c, .slice A' r.length c'] w fun y w' => y = .returned (.bool (decide (l = r))) ∧ Below w.heap.size w w' := by
  by_cases hlen : l.length = r.length
  · have Hs := hide hs.bound
    have Hs' := hide hs'.bound
    clear hs hs'
    have hb0 : ((l.length : Int) != (r.length : Int)) = false := by rw [bne_eq_false_iff_eq]; omega
    have Hlen := hide hlen
    obtain ⟨N, hN⟩ : ∃ N, N = l.length := ⟨_, rfl⟩
    obtain ⟨N', hN'⟩ : ∃ N', N' = r.length := ⟨_, rfl⟩
    rw [← hN, ← hN'] at hb0 ⊢
    have HN := hide hN
    have HN' := hide hN'
    have hNl : N ≤ 9223372036854775807 := by omega
    have hNN : N = N' := by omega
    have HNN := hide hNN
    clear hN hN' hl hlen hNN
    go_enter Try.func67, Try.ntmps67
    go_wp2
    go_loopw [13] (fun i wr => ∃ k : Nat, k ≤ N ∧ i = .int .i64 k ∧ (∀ j, j < k → l.getD j [] = r.getD j []) ∧ Below w.heap.size w wr) (fun i _ => N - (intOf i).toNat)
    case atStart => exact ⟨0, Nat.zero_le _, rfl, fun j h => absurd h (Nat.not_lt_zero _), Below.refl _ _⟩
    case round =>
      obtain ⟨k, hk, rfl, hall, hb⟩ := hrel
      have Hall := hide hall
      have Hb := hide hb
      clear hall hb
      by_cases hlt : k < N
      · obtain ⟨b, o, rfl, ck⟩ := Hs.out.text Hb.out (k := k) (by have := HN.out; omega)
        obtain ⟨b', o', rfl, ck'⟩ := Hs'.out.text Hb.out (k := k) (by have := HN'.out; have := HNN.out; omega)
        have hlt' : k < N' := by have := HNN.out; omega
        by_cases hx : l.getD k [] = r.getD k []
        · have Hx := hide hx
          rw [hx] at ck
          clear hx
          generalize (r.getD k []).toArray = x at *
          go_wp2
          go_quiet (fail)
          go_wp2
          refine ⟨⟨k + 1, by omega, by go_num, fun j hj => ?_, below_drewN Hb.out _⟩, by simp [intOf]; omega⟩
          rcases Nat.lt_or_ge j k with hj' | hj'
          · exact Hall.out j hj'
          · obtain rfl : j = k := by omega
            exact Hx.out
        · have hxn := eq_txt (l.getD k []) (r.getD k [])
          rw [decide_eq_false hx] at hxn
          have Hx := hide hx
          clear hx
          generalize (r.getD k []).toArray = x at *
          generalize (l.getD k []).toArray = y at *
          go_wp2
          go_quiet (fail)
          go_wp2
          go_ret
          refine ⟨?_, below_drewN Hb.out _⟩
          have hd : decide (l = r) = false := decide_eq_false fun h => Hx.out (by rw [h])
          rw [hd]; rfl
      · obtain rfl : k = N := by omega
        go_wp2
        go_ret
        refine ⟨?_, Hb.out⟩
        have hd : decide (l = r) = true := decide_eq_true (texts_same l r Hlen.out fun j hj => Hall.out j (by have := HN.out; omega))
        rw [hd]; rfl
  · have hb0 : ((l.length : Int) != (r.length : Int)) = true := by rw [bne_iff_ne]; omega
    have Hd := hide (show decide (l = r) = false from decide_eq_false fun h => hlen (by rw [h]))
    clear hs hs' hlen
    go_enter Try.func67, Try.ntmps67
    go_wp2
    go_ret
    exact ⟨by rw [Hd.out]; rfl, Below.refl _ _⟩


abbrev tC : TypeId := 58
abbrev tL : TypeId := 53
abbrev tPs : TypeId := 49
def clC (c : Cl) : List Value := [.int .i64 c.fr, .int .i64 c.to, .int .i64 c.n0, .int .i64 c.m0, .int .i64 c.n1, .int .i64 c.m1]
def sideV (s : Bool) : Value := .int .i64 (if s then 1 else 0)
set_option maxRecDepth 100000 in
theorem none_any (g : Nat) (n0 n1 : Int) (w : World) (c2 : w.cell? ⟨g, 2, none⟩ = some (.int .i64 n0)) (c4 : w.cell? ⟨g, 4, none⟩ = some (.int .i64 n1)) :
    Calls Try.prog 48 #[.pointer (some ⟨g, 0, none⟩)] w fun y w' => y = .returned (.bool (decide (n0 = 0 ∧ n1 = 0))) ∧ w' = w := by
  by_cases h0 : n0 = 0
  · subst h0
    go_enter Try.func48, Try.ntmps48
    go_wp2
    go_ret
    exact ⟨by by_cases h : n1 = 0 <;> simp [h], rfl⟩
  · have e0 : (n0 == 0) = false := by rw [beq_eq_false_iff_ne]; exact h0
    go_enter Try.func48, Try.ntmps48
    go_wp2
    go_ret
    exact ⟨by simp [h0], rfl⟩
set_option maxRecDepth 100000 in
set_option maxHeartbeats 1000000 in
theorem kind_any (g : Nat) (c : Cl) (p q : Ls) (A A' : Option Addr) (k k' : Nat) (P P' : Nat → Prop) (w : World) (hr : Row w g tC (clC c)) (hs : Vs w P A k (texts p)) (hs' : Vs w P' A' k' (texts q)) (hl : p.length ≤ 9223372036854775807) :
    Calls Try.prog 52 #[.pointer (some ⟨g, 0, none⟩), .slice A p.length k, .slice A' q.length k'] w fun y w' => y = .returned (.int .i64 (kindOf c p q)) ∧ Below w.heap.size w w' := by
  have c2 := hr.cell 2
  have c4 := hr.cell 4
  simp only [clC, List.getElem?_cons_zero, List.getElem?_cons_succ] at c2 c4
  have HN := hide (none_any g c.n0 c.n1 w c2 c4)
  have HE := hide (equal_any p q A A' k k' P P' w hs hs' hl)
  obtain ⟨n0, hn0⟩ : ∃ z, z = c.n0 := ⟨_, rfl⟩
  obtain ⟨n1, hn1⟩ : ∃ z, z = c.n1 := ⟨_, rfl⟩
  unfold kindOf
  rw [← hn0, ← hn1] at HN ⊢
  rw [← hn0] at c2
  rw [← hn1] at c4
  clear hn0 hn1 hr hs hs' hl
  by_cases k0 : n0 = 0
  · by_cases k1 : n1 = 0
    · rw [if_pos ⟨k0, k1⟩]
      rw [decide_eq_true (show n0 = 0 ∧ n1 = 0 from ⟨k0, k1⟩)] at HN
      clear k0 k1 c2 c4
      go_enter Try.func52, Try.ntmps52
      go_wp2_with fail
      refine HN.out.mono ?_
      rintro y w2 ⟨rfl, rfl⟩
      go_wp2
      go_ret
      exact ⟨rfl, Below.refl _ _⟩
    · rw [if_neg (fun h => k1 h.2), if_neg k1, if_pos k0]
      rw [decide_eq_false (show ¬ (n0 = 0 ∧ n1 = 0) from fun h => k1 h.2)] at HN
      have e1 : (n1 == 0) = false := by rw [beq_eq_false_iff_ne]; exact k1
      have e0 : (n0 == 0) = true := by rw [beq_iff_eq]; exact k0
      clear k0 k1
      go_enter Try.func52, Try.ntmps52
      go_wp2_with fail
      refine HN.out.mono ?_
      rintro y w2 ⟨rfl, rfl⟩
      go_wp2
      go_ret
      exact ⟨rfl, Below.refl _ _⟩
  · have e0 : (n0 == 0) = false := by rw [beq_eq_false_iff_ne]; exact k0
    rw [if_neg (fun h => k0 h.1)]
    rw [decide_eq_false (show ¬ (n0 = 0 ∧ n1 = 0) from fun h => k0 h.1)] at HN
    by_cases k1 : n1 = 0
    · rw [if_pos k1]
      have e1 : (n1 == 0) = true := by rw [beq_iff_eq]; exact k1
      clear k0 k1
      go_enter Try.func52, Try.ntmps52
      go_wp2_with fail
      refine HN.out.mono ?_
      rintro y w2 ⟨rfl, rfl⟩
      go_wp2
      go_ret
      exact ⟨rfl, Below.refl _ _⟩
    · rw [if_neg k1, if_neg k0]
      have e1 : (n1 == 0) = false := by rw [beq_eq_false_iff_ne]; exact k1
      clear k0 k1
      obtain ⟨np, hnp⟩ : ∃ z, z = p.length := ⟨_, rfl⟩
      obtain ⟨nq, hnq⟩ : ∃ z, z = q.length := ⟨_, rfl⟩
      rw [← hnp, ← hnq] at HE ⊢
      clear hnp hnq
      by_cases hpq : p = q
      · rw [if_pos hpq]
        rw [decide_eq_true hpq] at HE
        clear hpq
        go_enter Try.func52, Try.ntmps52
        go_wp2_with fail
        refine HN.out.mono ?_
        rintro y w2 ⟨rfl, rfl⟩
        go_wp2_with fail
        refine HE.out.mono ?_
        rintro y w3 ⟨rfl, hb⟩
        go_wp2
        go_ret
        exact ⟨rfl, hb⟩
      · rw [if_neg hpq]
        rw [decide_eq_false hpq] at HE
        clear hpq
        go_enter Try.func52, Try.ntmps52
        go_wp2_with fail
        refine HN.out.mono ?_
        rintro y w2 ⟨rfl, rfl⟩
        go_wp2_with fail
        refine HE.out.mono ?_
        rintro y w3 ⟨rfl, hb⟩
        go_wp2
        go_ret
        exact ⟨rfl, hb⟩
end Go.Proofs.Ytofccahgmkifjaa.Al
namespace Go.Proofs.Ytofccahgmkifjaa.Al
open Go Go.RowKit Kt Lw Li Df

abbrev tSp : TypeId := 35
abbrev tR : TypeId := 37
set_option maxRecDepth 100000 in
set_option maxHeartbeats 1000000 in
theorem rnext_any (g k : Nat) (x m : Int) (w : World) (c1 : w.cell? ⟨g, k + 1, none⟩ = some (.int .i64 x)) :
    Calls Try.prog 50 #[.pointer (some ⟨g, k, none⟩), .int .i64 m] w fun y w' => y = .returned (.agg #[.int .i64 x, .int .i64 m]) ∧ Below w.heap.size w w' := by
  have hlt := World.block_lt_of_cell? w ⟨g, k + 1, none⟩ c1
  simp only at hlt
  have c2 : ∀ o, (w.alloc o).cell? ⟨g, k + 1, none⟩ = some (.int .i64 x) := fun o => (World.cell?_of_block (a := ⟨g, k + 1, none⟩) (Below.heap_alloc w o g hlt)).trans c1
  go_enter Try.func50, Try.ntmps50
  go_wp2
  refine bodyPost_ret (results_cell_row rfl _ _ w.heap.size tSp #[.int .i64 x, .int .i64 m] (0, 0) _ rfl (Row.fresh w tSp _) Try.underlying35 rfl (by kernel_rfl)) rfl ⟨rfl, (Below.refl _ w).alloc (Nat.le_refl _) _⟩
theorem agree {w w' : World} {b j : Nat} {v : Value} (h : w.cell? ⟨b, j, none⟩ = some v) (hb : Below w.heap.size w w') : w'.cell? ⟨b, j, none⟩ = some v :=
  (World.cell?_of_block (a := ⟨b, j, none⟩) (hb.block b (World.block_lt_of_cell? w ⟨b, j, none⟩ h))).trans h
set_option maxRecDepth 100000 in
set_option maxHeartbeats 1000000 in
theorem rtake_any (g k : Nat) (x m : Nat) (A : Option Addr) (n c : Nat) (w : World) (t : TypeId) (cs : List Value) (hr : Row w g t cs) (h0 : cs[k]? = some (.slice A n c)) (h1 : cs[k + 1]? = some (.int .i64 x)) (hx : x + m ≤ c) (hn : x + m ≤ 1000000000) :
    Calls Try.prog 51 #[.pointer (some ⟨g, k, none⟩), .agg #[.int .i64 x, .int .i64 m]] w fun y w' => y = .returned (.slice (if c = x then A else A.map (·.add x)) m (c - x)) ∧ Row w' g t (cs.set (k + 1) (.int .i64 (x + m : Nat))) ∧ w.grownBy w' (some g) := by
  obtain ⟨y, hy⟩ : ∃ y, y = x + m := ⟨_, rfl⟩
  have hm : m = y - x := by omega
  rw [← hy] at hx hn ⊢
  have Hm := hide hm
  have hga : w.grownBy (w.alloc (.cells #[.int .i64 x, .int .i64 m] tSp)) (some g) := World.grownBy_alloc w _ _
  have hrow := Row.fresh w tSp #[.int .i64 x, .int .i64 m]
  have hr1 := hr.alloc (.cells #[.int .i64 x, .int .i64 m] tSp)
  have hlt := hr.lt
  obtain ⟨q, hq⟩ : ∃ q, q = w.heap.size := ⟨_, rfl⟩
  obtain ⟨w1, hw1⟩ : ∃ w1, w1 = w.alloc (.cells #[.int .i64 x, .int .i64 m] tSp) := ⟨_, rfl⟩
  have Hq := hide hq
  have Hw1 := hide hw1
  rw [← hw1] at hga hrow hr1
  rw [← hq] at hrow
  have hqg : q ≠ g := by omega
  have Hr1 := hide hr1
  have Hga := hide hga
  have Hrow := hide hrow
  have H0 := hide h0
  have H1 := hide h1
  have hwr : IntKind.i64.wrap ((x : Int) + (m : Int)) = (y : Int) := by rw [IntWalk.i64_in _ (by omega)]; omega
  obtain ⟨A', hA'⟩ : ∃ A', A' = (if c = x then A else A.map (·.add x)) := ⟨_, rfl⟩
  have hc := fun w => run_cut2 w A n c x y (by omega) hx
  rw [← hA'] at hc ⊢
  have d0 := (hr1.cell k).trans h0
  have d1 := (hr1.cell (k + 1)).trans h1
  have f1 := hr1.free (k + 1)
  have q0 := hrow.cell 0
  have q1 := hrow.cell 1
  simp only [List.getElem?_cons_zero, List.getElem?_cons_succ] at q0 q1
  clear hga hrow hr1 hr hq hw1 h0 h1 hy hm hA'
  go_enter Try.func51, Try.ntmps51
  go_wp2_with (rw [← Hw1.out, ← Hq.out])
  refine Rc.wp_region_ord (fun w' => w'.cell? ⟨g, k + 1, none⟩ = some (.int .i64 x) ∧ w'.cell? ⟨q, 1, none⟩ = some (.int .i64 m)) [(0, true), (1, true), (2, true), (3, true), (4, true), (5, true), (6, true), (7, true), (8, true), (9, false)] (by kernel_rfl) (by kernel_rfl) ?_
  simp only [Rg.pick, List.map_cons, List.map_nil, List.getD_cons_zero, List.getD_cons_succ]
  iterate 9 (refine Rc.ord_quiet (v := ?_) rfl (fun w' hS => ?_) ⟨d1, q1⟩ ?_; rotate_left; (obtain ⟨s1, s2⟩ := hS; go_simp; with_reducible rfl); simp only [Act.put, List.setIfInBounds_toArray, List.set_cons_succ, List.set_cons_zero])
  refine Rc.ord_loud rfl (fun K hK => ?_)
  go_simp
  refine hK _ _ (fun hf => absurd (show Rc.sink _ 9 = true from by kernel_rfl) (by rw [hf]; decide)) ?_
  clear hK K
  refine Rc.ord_nil ?_
  have hr2 : Row (w1.setCell ⟨g, k + 1, none⟩ (.int .i64 y)).drew g t (cs.set (k + 1) (.int .i64 y)) := (Hr1.out.put (k + 1) (.int .i64 y)).drew
  have hb2 := (Hrow.out.off hqg (i := k + 1) (.int .i64 y)).drew
  have hg2 := grown_drew (grown_put (i := k + 1) Hga.out (.int .i64 y))
  obtain ⟨w2, hw2⟩ : ∃ w2, w2 = (w1.setCell ⟨g, k + 1, none⟩ (.int .i64 y)).drew := ⟨_, rfl⟩
  have hk1 : k + 1 < cs.length := (List.getElem?_eq_some_iff.1 H1.out).1
  rw [← hw2] at hr2 hb2 hg2
  have e0 : w2.cell? ⟨g, k, none⟩ = some (.slice A n c) := (hr2.cell k).trans (by rw [List.getElem?_set, if_neg (by omega)]; exact H0.out)
  have e1 : w2.cell? ⟨g, k + 1, none⟩ = some (.int .i64 y) := (hr2.cell (k + 1)).trans (by rw [List.getElem?_set, if_pos rfl, if_pos hk1])
  have p0 := hb2.cell 0
  simp only [List.getElem?_cons_zero] at p0
  have Hr2 := hide hr2
  have Hg2 := hide hg2
  have Hw2 := hide hw2
  clear hr2 hb2 hg2 hw2 d0 d1 f1 q0 q1
  go_wp2_with (rw [← Hw2.out])
  go_quiet (fail)
  go_wp2
  go_ret
  exact ⟨by rw [Hm.out]; rfl, Hr2.out.drewN _, grown_drewN Hg2.out _⟩
/-- is the test of two lists what it should be, in whatever world behind -/
abbrev EqT (w : World) (p q : Ls) (A A' : Option Addr) (c c' : Nat) : Prop := ∀ w1, Below w.heap.size w w1 → Calls Try.prog 67 #[.slice A p.length c, .slice A' q.length c'] w1 fun y w' => y = .returned (.bool (decide (p = q))) ∧ Below w1.heap.size w1 w'
end Go.Proofs.Ytofccahgmkifjaa.Al
namespace Go.Proofs.Ytofccahgmkifjaa.Df
open Go Go.RowKit Go.WideShapes Go.ChangeShapes Go.ChangeAt Go.ChangeMaps Go.Deep Kt Lw

theorem list_of {α : Type} (Q : Nat → α → Prop) : ∀ n : Nat, (∀ i, i < n → ∃ a, Q i a) → ∃ L : List α, L.length = n ∧ ∀ j a, L[j]? = some a → Q j a
  | 0, _ => ⟨[], rfl, fun j a h => by simp at h⟩
  | n + 1, h => by
    obtain ⟨L, hl, hq⟩ := list_of Q n fun i hi => h i (by omega)
    obtain ⟨a, ha⟩ := h n (by omega)
    refine ⟨L ++ [a], by simp [hl], fun j b hj => ?_⟩
    rcases Nat.lt_or_ge j n with hlt | hge
    · rw [List.getElem?_append_left (by omega)] at hj
      exact hq j b hj
    · have hjl := (List.getElem?_eq_some_iff.1 hj).1
      simp [hl] at hjl
      obtain rfl : j = n := by omega
      rw [List.getElem?_append_right (by omega), hl, Nat.sub_self] at hj
      simp at hj
      rw [← hj]; exact ha
section
variable {H : Type} {enc : TypeId × Value → H}
theorem one_at (cs : List Value) (j : Nat) (v : Value) (h : (cs.drop j).take 1 = [v]) : cs[j]? = some v := by
  have h0 : ((cs.drop j).take 1)[0]? = some v := by rw [h]; rfl
  rw [List.getElem?_take, if_pos (by omega), List.getElem?_drop, Nat.add_zero] at h0
  exact h0
set_option maxRecDepth 100000 in
theorem open_edits {W : World} {base : Nat} {v : Value} {d : DataW H} {ps : List MemPlace}
    (hval : Value.okWide Try.prog W .any base 50 v) (h : DataW.Trod enc Try.prog W 0 (fun _ => true) true 50 v d ps) :
    ∃ (L : List Ed) (A : Option Addr) (c : Nat), v = .slice A L.length c ∧ Es W A c L ∧ L.length ≤ maxLen := by
  obtain ⟨a1, len, cap, rfl⟩ := okWide_slice Try.underlying50 hval
  obtain ⟨fuel, hf⟩ := h
  rcases open_slice Try.underlying50 hf with ⟨hcs, _⟩ | ⟨a, len', cap', m, n, D, Pl, hcs, _, hl, hm, hmm, _, hi⟩
  · simp [Value.cells] at hcs
    obtain ⟨rfl, rfl, rfl⟩ := hcs
    exact ⟨[], none, 0, rfl, Es.nil _ _ _, Nat.zero_le _⟩
  · simp [Value.cells] at hcs
    obtain ⟨rfl, rfl, rfl⟩ := hcs
    simp only [if_true] at hmm
    subst hmm
    have hC : Try.prog.cellsOf 68 = 3 := by kernel_rfl
    have cI : Try.prog.cellsOf 3 = 1 := by kernel_rfl
    have cS : Try.prog.cellsOf 22 = 1 := by kernel_rfl
    have cT : Try.prog.cellsOf 9 = 1 := by kernel_rfl
    rw [hC] at hi
    have hel : ∀ i, i < len → ∃ e : Ed, ∃ A' c', (∀ k u, (edC e (.slice A' e.ins.length c'))[k]? = some u → W.cell? ((a.add (i * 3)).add k) = some u) ∧ Vs W (fun b => b < W.heap.size) A' c' (texts e.ins) := by
      intro i hil
      obtain ⟨cs', hc, ht⟩ := hi i (by omega)
      obtain ⟨_, hcl, hat⟩ := World.cells?_some hc
      obtain ⟨y0, y1, y2, n', _, _, h0, h1, h2⟩ := trod_struct3 Try.underlying68 ht
      simp only [cI, cS] at h0 h1 h2
      obtain ⟨p, e0, _, _⟩ := DataW.trod_int Try.underlying3 h0
      obtain ⟨dl, e1, _, _⟩ := DataW.trod_int Try.underlying3 h1
      have k0 := one_at _ _ _ e0
      have k1 := one_at _ _ _ e1
      have key : ∀ (l : Ls) (A' : Option Addr) (c' : Nat), cs'[2]? = some (.slice A' l.length c') → ∀ k u, (edC ⟨p, dl, l⟩ (.slice A' l.length c'))[k]? = some u → W.cell? ((a.add (i * 3)).add k) = some u := by
        intro l A' c' k2 k u hk
        have hk3 : k < 3 := (List.getElem?_eq_some_iff.1 hk).1
        rw [hat k hk3]
        rcases k with _ | _ | _ | k
        · rw [k0, ← hk]; rfl
        · rw [k1, ← hk]; rfl
        · rw [k2, ← hk]; rfl
        · omega
      rcases open_strings Try.underlying22 Try.underlying9 cT h2 with ⟨e2, _⟩ | ⟨a2, l2, c2, zs, e2, _, hl2, hm2, hz2, _, hcell2, _⟩
      · exact ⟨⟨p, dl, []⟩, none, 0, key [] none 0 (one_at _ _ _ e2), Nat.le_refl _, fun h => by simp [texts] at h⟩
      · simp only [if_true] at hz2
        have hlen : ((zs.take l2).map fun s => s.data.toList).length = l2 := by rw [List.length_map, List.length_take]; omega
        refine ⟨⟨p, dl, (zs.take l2).map fun s => s.data.toList⟩, some a2, c2, key _ _ _ (by rw [hlen]; exact one_at _ _ _ e2), by rw [texts_len, hlen]; exact hl2, fun hn => ?_⟩
        rw [texts_len, hlen] at hn
        obtain ⟨ab, ao, spot⟩ := a2
        have hspot : spot = none := by simpa [Addr.add] using World.cell?_spot (hcell2 0 (by omega))
        subst hspot
        have hcj : ∀ j, j < l2 → W.cell? ⟨ab, ao + j, none⟩ = some (.string (zs.getD j ByteArray.empty)) := fun j hj => by
          have := hcell2 j (by omega)
          rwa [Addr.add_mid] at this
        refine ⟨ab, ao, rfl, World.block_lt_of_cell? W ⟨ab, ao + 0, none⟩ (hcj 0 hn), fun j u hj => ?_⟩
        have hjl : j < l2 := by have := (List.getElem?_eq_some_iff.1 hj).1; rw [texts_len, hlen] at this; exact this
        rw [hcj j hjl, ← hj, texts_at _ _ (by rw [hlen]; exact hjl)]
        simp [List.getD_eq_getElem?_getD, hjl, List.getElem?_eq_getElem (show j < zs.length by omega)]
    obtain ⟨L, hLl, hQ⟩ := list_of _ len hel
    refine ⟨L, some a, m, by rw [hLl], ⟨by omega, fun hn => ?_⟩, by omega⟩
    obtain ⟨ab, ao, spot⟩ := a
    obtain ⟨e0, A0, c0, hc0, _⟩ := hel 0 (by omega)
    have hspot : spot = none := by simpa [Addr.add] using World.cell?_spot (hc0 0 _ rfl)
    subst hspot
    have hlt : ab < W.heap.size := by
      have := hc0 0 _ rfl
      rw [Addr.add_mid, Addr.add_mid] at this
      exact World.block_lt_of_cell? W _ this
    refine ⟨ab, ao, rfl, hlt, fun j e hj => ?_⟩
    obtain ⟨A', c', h1, h2⟩ := hQ j e hj
    refine ⟨A', c', fun k u hk => ?_, h2⟩
    have := h1 k u hk
    rw [Addr.add_mid, Addr.add_mid] at this
    rw [Nat.mul_comm 3 j]
    exact this
end
end Go.Proofs.Ytofccahgmkifjaa.Df
namespace Go.Proofs.Ytofccahgmkifjaa.Al
open Go Go.RowKit Go.WideShapes Go.ChangeShapes Go.ChangeAt Go.ChangeMaps Go.Deep Kt Lw Li Df

/-- a region's cells -/
def rgC (r : Rg) : List Value := [.int .i64 r.kind, .int .i64 r.o0, .int .i64 r.on, .int .i64 r.a0, .int .i64 r.an, .int .i64 r.b0, .int .i64 r.bn]
theorem rgC_len (r : Rg) : (rgC r).length = 7 := rfl
/-- regions in a row of the call's own -/
def OwR (w : World) (B : Nat) (v : Value) (L : List Rg) : Prop := w.ownsRow B tR 7 v L.length (L.flatMap rgC)
/-- '.slice A n c' reads as these regions -/
def Rgs (w : World) (A : Option Addr) (c : Nat) (L : List Rg) : Prop :=
  L.length ≤ c ∧ (0 < L.length → ∃ b o, A = some ⟨b, o, none⟩ ∧ b < w.heap.size ∧ ∀ j r, L[j]? = some r → w.rangeAt b (o + 7 * j) (rgC r))
theorem OwR.nil (w : World) (B : Nat) : OwR w B (.slice none 0 0) [] := World.ownsRow_nil _ _ _ _
theorem Rgs.nil (w : World) (A : Option Addr) (c : Nat) : Rgs w A c [] := ⟨Nat.zero_le _, fun h => by simp at h⟩
theorem Rgs.keep {w w' : World} {A : Option Addr} {c : Nat} {L : List Rg} (h : Rgs w A c L) (hb : Below w.heap.size w w') : Rgs w' A c L :=
  ⟨h.1, fun hn => by
    obtain ⟨b, o, rfl, hlt, he⟩ := h.2 hn
    exact ⟨b, o, rfl, Nat.lt_of_lt_of_le hlt hb.size, fun j e hj i v hi => (World.cell?_of_block (a := ⟨b, o + 7 * j + i, none⟩) (hb.block b hlt)).trans (he j e hj i v hi)⟩⟩
theorem OwR.rgs {w : World} {B : Nat} {v : Value} {L : List Rg} (h : OwR w B v L) : ∃ A c, v = .slice A L.length c ∧ Rgs w A c L := by
  have h' := h
  rcases h.2 with ⟨rfl, h0⟩ | ⟨g, cap, cur, rfl, hB, hg, hnc, hcm, hs, ht⟩
  · have e : L = [] := List.eq_nil_of_length_eq_zero h0
    subst e
    exact ⟨none, 0, rfl, Rgs.nil _ _ _⟩
  · refine ⟨_, cap, rfl, hnc, fun _ => ⟨g, 0, rfl, (Array.getElem?_eq_some_iff.1 hg).1, fun j e hj k u hk => ?_⟩⟩
    have hjl : j < L.length := (List.getElem?_eq_some_iff.1 hj).1
    have hk7 : k < 7 := (List.getElem?_eq_some_iff.1 hk).1
    have := World.ownsRow.cellAt (cap := cap) h' (7 * j + k) (by omega)
    rw [Nat.zero_add, this, flat_at rgC 7 rgC_len L j k e hj hk7]
    exact hk
theorem OwR.below {w w' : World} {B : Nat} {v : Value} {L : List Rg} (h : OwR w B v L) {B' : Nat} (hb : Below B' w w') (hv : ∀ g, v.ownBlock = some g → g < B') : OwR w' B v L := by
  refine ⟨h.1, ?_⟩
  rcases h.2 with ⟨h1, h2⟩ | ⟨g, cap, cur, hv', h1, h2, h3⟩
  · exact .inl ⟨h1, h2⟩
  · exact .inr ⟨g, cap, cur, hv', h1, (hb.block g (hv g (by rw [hv']; rfl))).trans h2, h3⟩
theorem OwR.keep {w w' : World} {B : Nat} {v : Value} {L : List Rg} (h : OwR w B v L) (hb : Below w.heap.size w w') : OwR w' B v L := h.below hb fun g hg => (World.ownsRow.lt h g hg).2
theorem OwR.grown {w w' : World} {B : Nat} {v : Value} {L : List Rg} {r : Option Nat} (h : OwR w B v L) (hg : w.grownBy w' r) (hr : ∀ g, v.ownBlock = some g → some g ≠ r) : OwR w' B v L := by
  refine ⟨h.1, ?_⟩
  rcases h.2 with ⟨h1, h2⟩ | ⟨g, cap, cur, hv', h1, h2, h3⟩
  · exact .inl ⟨h1, h2⟩
  · exact .inr ⟨g, cap, cur, hv', h1, (hg.block g (Array.getElem?_eq_some_iff.1 h2).1 (hr g (by rw [hv']; rfl))).trans h2, h3⟩
theorem OwR.base {w : World} {B B' : Nat} {v : Value} {L : List Rg} (h : OwR w B v L) (hb : B' ≤ B) : OwR w B' v L :=
  ⟨h.1, h.2.imp id fun ⟨g, cap, cur, hv', h1, h2⟩ => ⟨g, cap, cur, hv', Nat.le_trans hb h1, h2⟩⟩
theorem OwR.drewN {w : World} {B : Nat} {v : Value} {L : List Rg} (h : OwR w B v L) (n : Nat) : OwR (w.drewN n) B v L := h
theorem OwR.drew {w : World} {B : Nat} {v : Value} {L : List Rg} (h : OwR w B v L) : OwR w.drew B v L := h
/-- a block of other cells is none of the row's -/
theorem OwR.ne {w : World} {B g : Nat} {t : TypeId} {cs : List Value} {v : Value} {L : List Rg} (hrow : Row w g t cs) (ht : t ≠ tR) (h : OwR w B v L) : ∀ b, v.ownBlock = some b → b ≠ g := by
  intro b hb e
  subst e
  rcases h.2 with ⟨rfl, _⟩ | ⟨g', cap, cur, rfl, _, hg', _⟩
  · cases hb
  · simp only [Value.ownBlock, Option.some.injEq] at hb
    subst hb
    unfold Row at hrow
    rw [hg'] at hrow
    simp only [Option.some.injEq, Obj.cells.injEq] at hrow
    exact ht hrow.2.1.symm
theorem infoRg : (Try.prog.info? 37).map (fun i => (i.zero, i.size, i.bytes)) = some (some (.agg #[.int .i64 0, .int .i64 0, .int .i64 0, .int .i64 0, .int .i64 0, .int .i64 0, .int .i64 0]), 7, 56) := by kernel_rfl
/-- append of one region -/
theorem wp_pushR {o : Oper} {a : Act} {K : Act → World → Prop} {Q : Exit → Act → World → Prop} {W : World} (s x : Operand)
    (ho : o.op = .call { callee := .builtin .append, args := #[s, x], argTypes := #[32, 32] })
    (B : Nat) (w0 : World) (v : Value) (L : List Rg) (e : Rg) (cs : Array Value) (hs : a.eval s = v) (hx : a.eval x = .slice (some ⟨W.heap.size, 0, none⟩) 1 1) (hc : cs = (rgC e).toArray)
    (hown : OwR W B v L) (hlen : L.length + 1 ≤ 1000000000) (hb : Below B w0 W) (hbase : B ≤ W.heap.size)
    (h : ∀ v' w', OwR w' B v' (L ++ [e]) → Below B w0 w' → W.grownBy w' v.ownBlock → K (a.put o.dst v') w') : o.wp Try.prog a (W.alloc (.cells cs tR)) K Q := by
  obtain ⟨i0, hi0, hz0, hz1, hz2⟩ := info_parts infoRg
  subst hc
  refine wp_append_own _ s x 32 ho B tR i0 (.agg #[.int .i64 0, .int .i64 0, .int .i64 0, .int .i64 0, .int .i64 0, .int .i64 0, .int .i64 0]) 7 56 Try.underlying32 hi0 hz0 hz1 hz2 rfl (by omega) v L.length (L.flatMap rgC) hs (World.ownsRow.alloc hown _)
    ⟨W.heap.size, 0, none⟩ 1 1 (rgC e) hx rfl (fun j u hu => ?_) ?_ (by unfold maxLen; omega) (by omega) (by simp; omega) (fun v' w' h1 h2 _ => ?_)
  · rw [Addr.add_mid, (Row.fresh W tR (rgC e).toArray).cell]
    simpa using hu
  · intro u hu
    simp only [rgC, List.mem_cons, List.not_mem_nil, or_false] at hu
    rcases hu with rfl | rfl | rfl | rfl | rfl | rfl | rfl <;> rfl
  · have hg := grownBy_back _ h2
    refine h v' w' ?_ (hb.grown hg hbase fun k hk => (World.ownsRow.lt hown k hk).1) hg
    unfold OwR
    rw [List.flatMap_append, List.length_append]
    simpa using h1
theorem wpList_pushR {ops : Array Oper} {rest : List Oper} {o : Oper} {a : Act} {Q : Exit → Act → World → Prop} {W : World} (hgd : o.guard = none) (s x : Operand)
    (ho : o.op = .call { callee := .builtin .append, args := #[s, x], argTypes := #[32, 32] })
    (B : Nat) (w0 : World) (v : Value) (L : List Rg) (e : Rg) (cs : Array Value) (hs : a.eval s = v) (hx : a.eval x = .slice (some ⟨W.heap.size, 0, none⟩) 1 1) (hc : cs = (rgC e).toArray)
    (hown : OwR W B v L) (hlen : L.length + 1 ≤ 1000000000) (hb : Below B w0 W) (hbase : B ≤ W.heap.size)
    (h : ∀ v' w', OwR w' B v' (L ++ [e]) → Below B w0 w' → W.grownBy w' v.ownBlock → wpList Try.prog ops Q rest (a.put o.dst v') w') : wpList Try.prog ops Q (o :: rest) a (W.alloc (.cells cs tR)) :=
  wpList_plain hgd fun _ hK => wp_pushR s x ho B w0 v L e cs hs hx hc hown hlen hb hbase fun v' w' h1 h2 h3 => hK _ _ (h v' w' h1 h2 h3)
/-- the region number k, in a world behind -/
theorem Rgs.at {w w' : World} {A : Option Addr} {c : Nat} {L : List Rg} (h : Rgs w A c L) (hb : Below w.heap.size w w') {k : Nat} (hk : k < L.length) :
    ∃ b o r, A = some ⟨b, o, none⟩ ∧ b < w.heap.size ∧ L[k]? = some r ∧ L.drop k = r :: L.drop (k + 1) ∧ (w'.cell? ⟨b, o + k * 7, none⟩ = some (.int .i64 r.kind) ∧ w'.cell? ⟨b, o + k * 7 + 1, none⟩ = some (.int .i64 r.o0) ∧ w'.cell? ⟨b, o + k * 7 + 2, none⟩ = some (.int .i64 r.on) ∧ w'.cell? ⟨b, o + k * 7 + 3, none⟩ = some (.int .i64 r.a0) ∧
      w'.cell? ⟨b, o + k * 7 + 4, none⟩ = some (.int .i64 r.an) ∧ w'.cell? ⟨b, o + k * 7 + 5, none⟩ = some (.int .i64 r.b0) ∧ w'.cell? ⟨b, o + k * 7 + 6, none⟩ = some (.int .i64 r.bn)) := by
  obtain ⟨b, o, rfl, hlt, he⟩ := h.2 (by omega)
  have h1 := he k _ (List.getElem?_eq_getElem hk)
  rw [Nat.mul_comm] at h1
  have h3 : ∀ i v, (rgC L[k])[i]? = some v → w'.cell? ⟨b, o + k * 7 + i, none⟩ = some v := fun i v hi => (World.cell?_of_block (a := ⟨b, o + k * 7 + i, none⟩) (hb.block b hlt)).trans (h1 i v hi)
  exact ⟨b, o, _, rfl, hlt, List.getElem?_eq_getElem hk, List.drop_eq_getElem_cons hk, h3 0 _ rfl, h3 1 _ rfl, h3 2 _ rfl, h3 3 _ rfl, h3 4 _ rfl, h3 5 _ rfl, h3 6 _ rfl⟩
section
variable {H : Type} {enc : TypeId × Value → H}
theorem trod_struct4R {P : Program} {w : World} {base : Nat} {spare : Nat → Bool} {held : Bool} {t : TypeId} {f0 f1 f2 f3 : Field} {fuel : Nat} {cs : List Value} {x : DataW H × List MemPlace} (ht : P.underlying t = some (.struct #[f0, f1, f2, f3])) (h : DataW.trod enc P w base spare held fuel t cs = some x) :
    ∃ y0 y1 y2 y3 n, x = (.agg [y0.1, y1.1, y2.1, y3.1], y0.2 ++ (y1.2 ++ (y2.2 ++ y3.2))) ∧ cs.length = P.cellsOf t ∧ DataW.trod enc P w base spare held n f0.type ((cs.drop f0.offset).take (P.cellsOf f0.type)) = some y0 ∧
      DataW.trod enc P w base spare held n f1.type ((cs.drop f1.offset).take (P.cellsOf f1.type)) = some y1 ∧ DataW.trod enc P w base spare held n f2.type ((cs.drop f2.offset).take (P.cellsOf f2.type)) = some y2 ∧
      DataW.trod enc P w base spare held n f3.type ((cs.drop f3.offset).take (P.cellsOf f3.type)) = some y3 := by
  obtain ⟨xs, n, _, rfl, hl, hlen, hf⟩ := DataW.trod_struct ht h
  match xs, hlen with
  | [y0, y1, y2, y3], _ => exact ⟨y0, y1, y2, y3, n, by simp, hl, by simpa using hf 0 f0 rfl, by simpa using hf 1 f1 rfl, by simpa using hf 2 f2 rfl, by simpa using hf 3 f3 rfl⟩
/-- a span's two numbers -/
theorem open_span {W : World} {base : Nat} {spare : Nat → Bool} {held : Bool} {n : Nat} {cs : List Value} {y : DataW H × List MemPlace} (h : DataW.trod enc Try.prog W base spare held n 35 cs = some y) :
    ∃ x m : Int, cs[0]? = some (.int .i64 x) ∧ cs[1]? = some (.int .i64 m) := by
  have cI : Try.prog.cellsOf 3 = 1 := by kernel_rfl
  obtain ⟨y0, y1, n', _, _, h0, h1⟩ := trod_struct2 Try.underlying35 h
  simp only [cI] at h0 h1
  obtain ⟨x, e0, _, _⟩ := DataW.trod_int Try.underlying3 h0
  obtain ⟨m, e1, _, _⟩ := DataW.trod_int Try.underlying3 h1
  exact ⟨x, m, one_at _ _ _ e0, one_at _ _ _ e1⟩
theorem at_in {cs : List Value} {j n i : Nat} {v : Value} (h : ((cs.drop j).take n)[i]? = some v) : cs[j + i]? = some v := by
  rw [List.getElem?_take] at h
  split at h
  · rw [List.getElem?_drop] at h; exact h
  · cases h
set_option maxRecDepth 100000 in
theorem open_regions {W : World} {base : Nat} {v : Value} {d : DataW H} {ps : List MemPlace}
    (hval : Value.okWide Try.prog W .any base 32 v) (h : DataW.Trod enc Try.prog W 0 (fun _ => true) true 32 v d ps) :
    ∃ (L : List Rg) (A : Option Addr) (c : Nat), v = .slice A L.length c ∧ Rgs W A c L ∧ L.length ≤ maxLen := by
  obtain ⟨a1, len, cap, rfl⟩ := okWide_slice Try.underlying32 hval
  obtain ⟨fuel, hf⟩ := h
  rcases open_slice Try.underlying32 hf with ⟨hcs, _⟩ | ⟨a, len', cap', m, n, D, Pl, hcs, _, hl, hm, hmm, _, hi⟩
  · simp [Value.cells] at hcs
    obtain ⟨rfl, rfl, rfl⟩ := hcs
    exact ⟨[], none, 0, rfl, Rgs.nil _ _ _, Nat.zero_le _⟩
  · simp [Value.cells] at hcs
    obtain ⟨rfl, rfl, rfl⟩ := hcs
    simp only [if_true] at hmm
    subst hmm
    have hC : Try.prog.cellsOf 37 = 7 := by kernel_rfl
    have cI : Try.prog.cellsOf 3 = 1 := by kernel_rfl
    have cS : Try.prog.cellsOf 35 = 2 := by kernel_rfl
    rw [hC] at hi
    have hel : ∀ i, i < len → ∃ e : Rg, ∀ k u, (rgC e)[k]? = some u → W.cell? ((a.add (i * 7)).add k) = some u := by
      intro i hil
      obtain ⟨cs', hc, ht⟩ := hi i (by omega)
      obtain ⟨_, hcl, hat⟩ := World.cells?_some hc
      obtain ⟨y0, y1, y2, y3, n', _, _, h0, h1, h2, h3⟩ := trod_struct4R Try.underlying37 ht
      simp only [cI, cS] at h0 h1 h2 h3
      obtain ⟨kd, e0, _, _⟩ := DataW.trod_int Try.underlying3 h0
      obtain ⟨o0, on, p1, p2⟩ := open_span h1
      obtain ⟨a0, an, p3, p4⟩ := open_span h2
      obtain ⟨b0, bn, p5, p6⟩ := open_span h3
      have k0 := one_at _ _ _ e0
      have k1 := at_in p1
      have k2 := at_in p2
      have k3 := at_in p3
      have k4 := at_in p4
      have k5 := at_in p5
      have k6 := at_in p6
      refine ⟨⟨kd, o0, on, a0, an, b0, bn⟩, fun k u hk => ?_⟩
      have hk7 : k < 7 := (List.getElem?_eq_some_iff.1 hk).1
      rw [hat k hk7]
      rcases k with _ | _ | _ | _ | _ | _ | _ | k
      · rw [k0, ← hk]; rfl
      · rw [k1, ← hk]; rfl
      · rw [k2, ← hk]; rfl
      · rw [k3, ← hk]; rfl
      · rw [k4, ← hk]; rfl
      · rw [k5, ← hk]; rfl
      · rw [k6, ← hk]; rfl
      · omega
    obtain ⟨L, hLl, hQ⟩ := list_of _ len hel
    refine ⟨L, some a, m, by rw [hLl], ⟨by omega, fun hn => ?_⟩, by omega⟩
    obtain ⟨ab, ao, spot⟩ := a
    obtain ⟨e0, hc0⟩ := hel 0 (by omega)
    have hspot : spot = none := by simpa [Addr.add] using World.cell?_spot (hc0 0 _ rfl)
    subst hspot
    have hlt : ab < W.heap.size := by
      have := hc0 0 _ rfl
      rw [Addr.add_mid, Addr.add_mid] at this
      exact World.block_lt_of_cell? W _ this
    refine ⟨ab, ao, rfl, hlt, fun j e hj k u hk => ?_⟩
    have := hQ j e hj k u hk
    rw [Addr.add_mid, Addr.add_mid] at this
    rw [Nat.mul_comm 7 j]
    exact this
end
end Go.Proofs.Ytofccahgmkifjaa.Al
