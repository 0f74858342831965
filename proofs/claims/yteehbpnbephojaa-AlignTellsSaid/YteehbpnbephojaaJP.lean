/-
  A region is added, or lines that nobody changed.
-/
import Derived.BigQuiet
import Derived.Test.YteehbpnbephojaaJO
namespace Go.Proofs.Yteehbpnbephojaa.Al
open Go Go.RowKit Kt Kg Lw Li Df Kf

set_option maxRecDepth 100000 in
set_option maxHeartbeats 4000000 in
theorem add_any {g : Nat} {Ao Aa Ab : Option Addr} {co ca cb X Y Z M M1 M2 B0 : Nat} {o a b : Ls} {w : World} {v : Value} {l : List Rg} (s : St) (c : Cl) {P P' : Nat → Prop}
    (hr : Row w g tPs (psC Ao o.length co X Aa a.length ca Y Ab b.length cb Z v)) (ho : OwR w B0 v l) (hB0 : B0 ≤ w.heap.size) (hl : l.length + 1 ≤ 1000000000)
    (hs : s = ⟨X, Y, Z, l⟩) (hM : c.to - c.fr = M) (hM1 : (M : Int) + c.m0 = M1) (hM2 : (M : Int) + c.m1 = M2) (hX : X + M ≤ o.length) (hY : Y + M1 ≤ a.length) (hZ : Z + M2 ≤ b.length)
    (hco : o.length ≤ co ∧ o.length ≤ 1000000000) (hca : a.length ≤ 1000000000) (hcb : b.length ≤ 1000000000) (hva : Vs w P Aa ca (texts a)) (hvb : Vs w P' Ab cb (texts b)) (hP : ∀ b, P b → b ≠ g ∧ b < w.heap.size) (hP' : ∀ b, P' b → b ≠ g ∧ b < w.heap.size) :
    Calls Try.prog 18 #[.pointer (some ⟨g, 0, none⟩), .agg #[.int .i64 c.fr, .int .i64 c.to, .int .i64 c.n0, .int .i64 c.m0, .int .i64 c.n1, .int .i64 c.m1]] w fun y w' => y = .returned (.tuple #[]) ∧
      ∃ v', Row w' g tPs (psC Ao o.length co (s.add a b c).x Aa a.length ca (s.add a b c).y Ab b.length cb (s.add a b c).z v') ∧ OwR w' B0 v' (s.add a b c).l ∧ Oth (fun k => k = g ∨ v.ownBlock = some k) w w' := by
  have Hadd : Hid (s.add a b c = ⟨(X + M : Nat), (Y + M1 : Nat), (Z + M2 : Nat), l ++ [⟨kindOf c (cut a Y M1) (cut b Z M2), X, M, Y, M1, Z, M2⟩]⟩) := by
    subst hs
    show _ = _
    unfold St.add
    simp only
    rw [hM, hM1, hM2]
    congr 1 <;> omega
  rw [Hadd.out]
  have hla := hva.1
  have hlb := hvb.1
  rw [texts_len] at hla hlb
  have hM' : IntKind.i64.wrap (c.to - c.fr) = (M : Int) := by rw [hM]; exact IntWalk.i64_in _ (by omega)
  have hw0 : IntKind.i64.wrap ((M : Int) + c.m0) = (M : Int) + c.m0 := IntWalk.i64_in _ (by omega)
  have hw1 : IntKind.i64.wrap ((M : Int) + c.m1) = (M : Int) + c.m1 := IntWalk.i64_in _ (by omega)
  obtain ⟨w1, hw1'⟩ : ∃ w1, w1 = w.alloc (.cells (clC c).toArray tC) := ⟨_, rfl⟩
  have hb1 : Below w.heap.size w w1 := by rw [hw1']; exact (Below.refl _ w).alloc (Nat.le_refl _) _
  have hrow0 : Row w1 w.heap.size tC (clC c) := by rw [hw1']; exact Row.fresh w tC _
  have hr1 := hr.below hb1 hr.lt
  obtain ⟨q0, hq0⟩ : ∃ q0, q0 = w.heap.size := ⟨_, rfl⟩
  have hg0 : q0 ≠ g := by have := hr.lt; omega
  rw [← hq0] at hrow0
  have k0 := hrow0.cell 0
  have k1 := hrow0.cell 1
  have k3 := hrow0.cell 3
  have k5 := hrow0.cell 5
  simp only [clC, List.getElem?_cons_zero, List.getElem?_cons_succ] at k0 k1 k3 k5
  have Hr1 := hide hr1
  have Hg := hide hr
  have Hb1 := hide hb1
  have Hrow0 := hide hrow0
  have Ho := hide ho
  have Hva := hide hva
  have Hvb := hide hvb
  have HP := hide hP
  have HP' := hide hP'
  have Hw1 := hide hw1'
  have Hq0 := hide hq0
  have HM1 := hide hM1
  have HM2 := hide hM2
  have Hl := hide hl
  have HB0 := hide hB0
  have Hn := hide (show X + M ≤ co ∧ Y + M1 ≤ a.length ∧ Z + M2 ≤ b.length ∧ X + M ≤ 1000000000 ∧ a.length ≤ 1000000000 ∧ b.length ≤ 1000000000 from ⟨by omega, hY, hZ, by omega, hca, hcb⟩)
  clear hr ho hva hvb hP hP' hw1' hq0 hb1 hr1 hrow0 hs hM hM1 hM2 hl hB0 hX hY hZ hco hca hcb
  unfold clC at Hw1
  go_enter Try.func18, Try.ntmps18
  go_wp2_with (rw [← Hw1.out, ← Hq0.out])
  rename_i Q' KK hKK
  refine add_r2 _ _ _ _ _ _ _ _ _ _ _ _ _ _ _ _ _ _ _ _ _ _ _ _ _ _ _ _ _ _ _ _ _ _ _ _ _ _ _ _ _ _ _ _ _ _ _ _ _ _ _ _ _ _ _ _ _ _ _ _ _ _ _ _ (by kernel_rfl) (Hr1.out.cell 1) (Hr1.out.cell 3) (Hr1.out.cell 5) k3 k5 hw0 hw1 ?_
  intro q u11 u12 u13 u14 u15 u16 u17 u18 u19 u20 u21 u22 u23 u24 u25 u26 u27 u28 u29 u30 u31 u32 u33 u34 u35 u36 w2 hqw hrow2 hb2
  refine hKK _ _ ?_
  clear hKK KK
  go_wp2
  have hgq : q ≠ g := by
    have := Hr1.out.lt
    omega
  have hq0q : q ≠ q0 := by
    have := Hrow0.out.lt
    omega
  have hr2 := Hr1.out.below hb2 Hr1.out.lt
  have hc2 := Hrow0.out.below hb2 Hrow0.out.lt
  have hM1r : (M : Int) + c.m0 = M1 := HM1.out
  have hM2r : (M : Int) + c.m1 = M2 := HM2.out
  rw [hM1r, hM2r] at hrow2
  have Hb2 := hide (Hb1.out.trans (hb2.mono Hb1.out.size))
  have hn := Hn.out
  rename_i KK hKK
  refine add_r3 _ _ _ _ _ _ _ _ _ _ _ _ _ _ _ _ _ _ _ _ _ _ _ _ _ _ _ _ _ _ _ _ _ _ _ _ _ _ _ _ _ _ _ _ _ _ _ _ _ _ _ _ _ _ _ _ _ _ _ _ _ _ _ _ (by kernel_rfl) hr2 hrow2 hgq hn.1 hn.2.2.2.1 ?_
  intro u37 u38 u39 u40 u41 u42 w3 hr3 hg3
  refine hKK _ _ ?_
  clear hKK KK
  go_wp2
  have hq3 := hrow2.grown hg3 (fun e => hgq (Option.some.inj e))
  have hc3 := hc2.grown hg3 (fun e => hg0 (Option.some.inj e))
  have ho3 : Oth (fun k => k = g) w w3 := (Oth.of_below (fun k => k = g) Hb2.out).trans (Oth.of_grown hg3 (fun k e => (Option.some.inj e).symm)) fun _ _ h => h
  have hva3 := Lw.Vs.move Hva.out fun k hk hlt => ho3.block k hlt (HP.out k hk).1
  have hvb3 := Lw.Vs.move Hvb.out fun k hk hlt => ho3.block k hlt (HP'.out k hk).1
  rename_i KK hKK
  refine add_r4 _ _ _ _ _ _ _ _ _ _ _ _ _ _ _ _ _ _ _ _ _ _ _ _ _ _ _ _ _ _ _ _ _ _ _ _ _ _ _ _ _ _ _ _ _ _ _ _ _ _ _ _ _ _ _ _ _ _ _ _ _ _ _ _ (by kernel_rfl) hr3 hq3 hgq hc3 hg0 hva3 hvb3 (fun k hk => (HP.out k hk).1) (fun k hk => (HP'.out k hk).1) rfl rfl hn.2.1 hn.2.2.1 hn.2.2.2.2.1 hn.2.2.2.2.2 ?_
  intro u43 u44 u45 u46 u47 u48 u49 u50 u51 u52 u53 u54 u55 u56 w4 hr4 hq4 ho4
  refine hKK _ _ ?_
  clear hKK KK
  go_wp2
  have hw1s := Hb1.out.size
  have ho4' : Oth (fun k => k = g) w w4 := ho3.trans ho4 fun k hk h => by
    rcases h with h | h
    · exact h
    · exfalso; omega
  have hgv := OwR.ne Hg.out (by decide) Ho.out
  have how : OwR w4 B0 v l := by
    refine ⟨Ho.out.1, ?_⟩
    rcases Ho.out.2 with ⟨h1, h2⟩ | ⟨g', cap, cur, hv', h1, h2, h3⟩
    · exact .inl ⟨h1, h2⟩
    · exact .inr ⟨g', cap, cur, hv', h1, (ho4'.block g' (Array.getElem?_eq_some_iff.1 h2).1 (hgv g' (by rw [hv']; rfl))).trans h2, h3⟩
  refine wp_last (add_r5 _ _ _ _ _ _ _ _ _ _ _ _ _ _ _ _ _ _ _ _ _ _ _ _ _ _ _ _ _ _ _ _ _ _ _ _ _ _ _ _ _ _ _ _ _ _ _ _ _ _ _ _ _ _ _ _ _ _ _ _ _ _ _ _ (by kernel_rfl) hr4 (r := ⟨kindOf c (cut a Y M1) (cut b Z M2), X, M, Y, M1, Z, M2⟩) hq4 hgq how (Nat.le_trans HB0.out ho4'.size) (fun k hk e => by have := (World.ownsRow.lt Ho.out k hk).2; have := Hb1.out.size; omega) Hl.out ?_)
  intro u57 u58 u59 u60 u61 u62 u63 u64 u65 u66 w5 v5 hr5 ho5 hx5
  refine bodyPost_end (results_none rfl _ _ _) rfl ?_
  exact ⟨rfl, v5, hr5, ho5, (ho4'.mono fun k _ h => .inl h).trans hx5 fun _ _ h => h⟩
/-- what parts of a world the calls here ask and leave -/
structure Parts (w0 : World) (B0 : Nat) (W : World) (g : Nat) (Ao Aa Ab : Option Addr) (co ca cb : Nat) (o a b : Ls) (v : Value) (s : St) : Prop where
  row : Row W g tPs (psC Ao o.length co s.x Aa a.length ca s.y Ab b.length cb s.z v)
  own : OwR W B0 v s.l
  base : w0.heap.size ≤ B0 ∧ B0 ≤ W.heap.size
  low : Below w0.heap.size w0 W
  out : w0.heap.size ≤ g
/-- what came in -/
structure Trio (w0 : World) (Ao Aa Ab : Option Addr) (co ca cb : Nat) (o a b : Ls) : Prop where
  o_ : Vs w0 (fun b => b < w0.heap.size) Ao co (texts o)
  a_ : Vs w0 (fun b => b < w0.heap.size) Aa ca (texts a)
  b_ : Vs w0 (fun b => b < w0.heap.size) Ab cb (texts b)
  lo_ : o.length ≤ 1000
  la_ : a.length ≤ 1000
  lb_ : b.length ≤ 1000
section
variable {w0 w : World} {B0 g : Nat} {Ao Aa Ab : Option Addr} {co ca cb : Nat} {o a b : Ls} {v : Value} {s : St}
theorem Parts.oth {w' : World} (h : Parts w0 B0 w g Ao Aa Ab co ca cb o a b v s) (ho : Oth (fun k => k = g ∨ v.ownBlock = some k) w w') : Below w0.heap.size w0 w' :=
  ho.below h.low h.low.size fun k hk hs => by
    rcases hs with hs | hs
    · have := h.out; omega
    · have := (World.ownsRow.lt h.own k hs).1; have := h.base; omega
theorem Parts.grown {w' : World} {r : Option Nat} (h : Parts w0 B0 w g Ao Aa Ab co ca cb o a b v s) (hg : w.grownBy w' r) (hr : ∀ k, r = some k → w0.heap.size ≤ k ∧ k ≠ g ∧ (k < B0 ∨ w.heap.size ≤ k)) : Parts w0 B0 w' g Ao Aa Ab co ca cb o a b v s :=
  ⟨h.row.grown hg fun e => (hr g e.symm).2.1 rfl, h.own.grown hg fun k hk e => by
    have h1 := World.ownsRow.lt h.own k hk
    have h2 := (hr k e.symm).2.2
    omega, ⟨h.base.1, Nat.le_trans h.base.2 hg.size⟩, h.low.grown hg h.low.size fun k hk => (hr k hk).1, h.out⟩
theorem Parts.drew (h : Parts w0 B0 w g Ao Aa Ab co ca cb o a b v s) : Parts w0 B0 w.drew g Ao Aa Ab co ca cb o a b v s := ⟨h.row.drew, h.own.drew, h.base, h.low.drew, h.out⟩
theorem padd_any (c : Cl) {X Y Z M M1 M2 : Nat} (h : Parts w0 B0 w g Ao Aa Ab co ca cb o a b v s) (ht : Trio w0 Ao Aa Ab co ca cb o a b) (hl : s.l.length + 1 ≤ 1000000000)
    (hx : s.x = X) (hy : s.y = Y) (hz : s.z = Z) (hM : c.to - c.fr = M) (hM1 : (M : Int) + c.m0 = M1) (hM2 : (M : Int) + c.m1 = M2) (hX : X + M ≤ o.length) (hY : Y + M1 ≤ a.length) (hZ : Z + M2 ≤ b.length) :
    Calls Try.prog 18 #[.pointer (some ⟨g, 0, none⟩), .agg #[.int .i64 c.fr, .int .i64 c.to, .int .i64 c.n0, .int .i64 c.m0, .int .i64 c.n1, .int .i64 c.m1]] w fun y w' => y = .returned (.tuple #[]) ∧
      ∃ v', Parts w0 B0 w' g Ao Aa Ab co ca cb o a b v' (s.add a b c) ∧ Oth (fun k => k = g ∨ v.ownBlock = some k) w w' := by
  have hr := h.row
  rw [hx, hy, hz] at hr
  have hco := ht.o_.1
  rw [texts_len] at hco
  refine (add_any s c hr h.own h.base.2 hl (by cases s; simp_all) hM hM1 hM2 hX hY hZ ⟨hco, Nat.le_trans ht.lo_ (by omega)⟩ (Nat.le_trans ht.la_ (by omega)) (Nat.le_trans ht.lb_ (by omega)) (Lw.Vs.move ht.a_ fun b hb _ => h.low.block b hb) (Lw.Vs.move ht.b_ fun b hb _ => h.low.block b hb)
    (fun b hb => ⟨by have := h.out; omega, Nat.lt_of_lt_of_le hb h.low.size⟩) (fun b hb => ⟨by have := h.out; omega, Nat.lt_of_lt_of_le hb h.low.size⟩)).mono ?_
  rintro y w' ⟨rfl, v', h1, h2, h3⟩
  exact ⟨rfl, v', ⟨h1, h2, ⟨h.base.1, Nat.le_trans h.base.2 h3.size⟩, h.oth h3, h.out⟩, h3⟩
set_option maxRecDepth 100000 in
set_option maxHeartbeats 1000000 in
theorem pkeep_any {X Y Z T : Nat} (h : Parts w0 B0 w g Ao Aa Ab co ca cb o a b v s) (ht : Trio w0 Ao Aa Ab co ca cb o a b) (hl : s.l.length + 1 ≤ 1000000000)
    (hx : s.x = X) (hy : s.y = Y) (hz : s.z = Z) (hX : X ≤ T) (hT : T ≤ o.length) (hY : Y + (T - X) ≤ a.length) (hZ : Z + (T - X) ≤ b.length) :
    Calls Try.prog 17 #[.pointer (some ⟨g, 0, none⟩), .int .i64 T] w fun y w' => y = .returned (.tuple #[]) ∧
      ∃ v', Parts w0 B0 w' g Ao Aa Ab co ca cb o a b v' (s.keep a b T) ∧ Oth (fun k => k = g ∨ v.ownBlock = some k) w w' := by
  have k1 := h.row.cell 1
  simp only [psC, List.getElem?_cons_zero, List.getElem?_cons_succ] at k1
  rw [hx] at k1
  unfold St.keep
  by_cases hlt : X < T
  · have hd : decide ((X : Int) < (T : Int)) = true := decide_eq_true (by omega)
    have hd0 : decide (X < T) = true := decide_eq_true hlt
    have hd1 : (X : Int) < (T : Int) := by omega
    rw [if_pos (show s.x < (T : Int) by omega)]
    have HA := hide (padd_any ⟨s.x, T, 0, 0, 0, 0⟩ (M := T - X) (M1 := T - X) (M2 := T - X) h ht hl hx hy hz (by simp only; omega) (by simp) (by simp) (by omega) hY hZ)
    rw [hx] at HA
    obtain ⟨s', hs'⟩ : ∃ s', s' = s.add a b ⟨s.x, T, 0, 0, 0, 0⟩ := ⟨_, rfl⟩
    rw [← hs']
    rw [← hx, ← hs', hx] at HA
    clear h ht hs' hX hT hY hZ hx hy hz hl
    go_enter Try.func17, Try.ntmps17
    go_wp2_with fail
    refine HA.out.mono ?_
    rintro y w' ⟨rfl, v', h1, h2⟩
    have H1 := hide h1
    have H2 := hide h2
    clear h1 h2
    go_wp2
    refine bodyPost_end (results_none rfl _ _ _) rfl ?_
    exact ⟨rfl, v', H1.out, H2.out⟩
  · have hd : decide ((X : Int) < (T : Int)) = false := decide_eq_false (by omega)
    have hd0 : decide (X < T) = false := decide_eq_false hlt
    have hd1 : ¬ (X : Int) < (T : Int) := by omega
    rw [if_neg (show ¬ s.x < (T : Int) by omega)]
    have H := hide h
    clear h ht hX hT hY hZ hx hy hz hl
    go_enter Try.func17, Try.ntmps17
    go_wp2
    refine bodyPost_end (results_none rfl _ _ _) rfl ?_
    exact ⟨rfl, ⟨v, H.out⟩, Oth.refl _ _⟩
end
end Go.Proofs.Yteehbpnbephojaa.Al
