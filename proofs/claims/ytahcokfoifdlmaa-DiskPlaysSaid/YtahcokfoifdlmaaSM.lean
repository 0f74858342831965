/-
  The reference's disk in memory: Cut and Do.
-/
import Derived.Test.YtahcokfoifdlmaaSL
import Derived.Test.YtahcokfoifdlmaaSF
namespace Go.Proofs.Ytahcokfoifdlmaa.Dk
open Go Go.RowKit Kt Kg Wr Lw

set_option maxHeartbeats 2000000 in
set_option maxRecDepth 100000 in
theorem rcut_any {w : World} {S : Nat → Prop} {g : Nat} {s : Rt} (h : RtIn w S g s) (hf : s.fit) (n : Int) :
    Calls Try.prog 24 #[.pointer (some ⟨g, 0, none⟩), .int .i64 n] w fun y w' => RDoes w S g (rcut s n) y w' := by
  have H := hide h
  obtain ⟨v, hr, ho, hg, hb⟩ := h
  obtain ⟨A0, c0, rfl, hs0⟩ := ho.sl
  obtain ⟨f1, f2, f3, f4⟩ := hf
  obtain ⟨N, hN⟩ : ∃ N, N = s.k.length := ⟨_, rfl⟩
  obtain ⟨M, hM⟩ : ∃ N, N = s.room := ⟨_, rfl⟩
  rw [← hN] at hr f1
  rw [← hM] at hr f1 f2
  have k0 := hr.cell 0
  have k4 := hr.cell 4
  have e0 := hr.free 0
  simp only [rtC, List.getElem?_cons_zero, List.getElem?_cons_succ] at k0 k4
  by_cases hd : s.dead = true
  · have HRes := hide (show rcut s n = (s, 9) from if_pos hd)
    rw [hd] at k4
    clear hr ho hs0 hN hM k0
    go_enter Try.func24, Try.ntmps24
    go_wp2
    go_ret
    rw [HRes.out]
    exact ⟨rfl, S, H.out, Oth.refl S w, fun k hk => .inl hk⟩
  · have hd' : s.dead = false := by simpa using hd
    rw [hd'] at k4 hr
    by_cases h1 : n < 0
    · have HRes := hide (show rcut s n = (s, 1) by unfold rcut; rw [if_neg hd, if_pos (.inl h1)])
      have hc : decide (n < 0) = true := decide_eq_true h1
      clear hr ho hs0 hN hM k0
      go_enter Try.func24, Try.ntmps24
      go_wp2
      go_ret
      rw [HRes.out]
      exact ⟨rfl, S, H.out, Oth.refl S w, fun k hk => .inl hk⟩
    · obtain ⟨m, rfl⟩ : ∃ m : Nat, n = (m : Int) := ⟨n.toNat, by omega⟩
      have hc : decide ((m : Int) < 0) = false := decide_eq_false h1
      by_cases h2 : N < m
      · have HRes := hide (show rcut s (m : Int) = (s, 1) by unfold rcut; rw [if_neg hd, if_pos (.inr (by omega))])
        have hc2 : decide (N < m) = true := decide_eq_true h2
        clear hr ho hs0 hN hM
        go_enter Try.func24, Try.ntmps24
        go_wp2
        go_ret
        rw [HRes.out]
        exact ⟨rfl, S, H.out, Oth.refl S w, fun k hk => .inl hk⟩
      · have HRes := hide (show rcut s (m : Int) = (⟨s.k.take m, s.room, s.has, s.fuse, false⟩, 0) by unfold rcut; rw [if_neg hd, if_neg (fun x => x.elim h1 (by omega))]; rfl)
        have hc2 : decide (N < m) = false := decide_eq_false h2
        have hNc : N ≤ c0 := by rw [hN]; exact hs0.1
        have Hfr := hide (fun wz => run_front wz A0 N c0 m (by omega) hNc)
        have hfr := Hfr.out
        have Hl := hide (show (s.k.take m).length = m by rw [List.length_take]; omega)
        have Hlm := hide (show m ≤ 16777216 by omega)
        have k0a : ∀ o, (w.alloc o).cell? ⟨g, 0, none⟩ = some (.slice A0 N c0) := fun o => (hr.alloc o).cell 0
        have HR := hide hr
        have HSs := hide ((sl_front hs0 m).bound)
        have Hg := hide hg
        have Hb := hide hb
        have HM := hide hM
        clear hr ho hs0 hN hM hg hb hd hd' hNc
        go_enter Try.func24, Try.ntmps24
        go_wp2_with (at_builtin; go_loud (refine wpList_cat rfl (.tmp 21) (.tmp 27) 30 rfl Try.underlying30 info8 w.heap.size w _ [] (s.k.take m) _ A0 c0 rfl (by rw [Hl.out]; rfl) (Own.made w w.heap.size 5 #[] 0 (Nat.le_refl _) rfl (Nat.zero_le _)) (HSs.out.move fun b hb _ => Below.heap_alloc w _ b hb.2) (by have := Hl.out; have := Hlm.out; simp only [List.length_nil]; omega) ((Below.refl _ _).alloc (Nat.le_refl _) _) (by simp) ?_; intro v' w2 hown hb2 _; obtain ⟨Al, nl, cl, rfl⟩ : ∃ A n c, v' = .slice A n c := by { obtain ⟨A, c, e, _⟩ := hown.sl; exact ⟨A, _, c, e⟩ }; have HOw := hide hown; have HB2 := hide hb2; have HR2 := hide (HR.out.below hb2 HR.out.lt); have k0' := HR2.out.cell 0; have e0' := HR2.out.free 0; simp only [rtC, List.getElem?_cons_zero] at k0'; clear hown hb2))
        go_ret
        have HE := HR2.out.put 0 (.slice Al nl cl)
        have HOe : Own (w2.setCell ⟨g, 0, none⟩ (.slice Al nl cl)) w.heap.size tU8 (.slice Al nl cl) (s.k.take m) := ownsRow_setCell_below HOw.out (a := ⟨g, 0, none⟩) HR.out.lt _
        have HOx := (Oth.of_below S HB2.out).put (g := g) (i := 0) (.inl Hg.out) (.slice Al nl cl)
        obtain ⟨S', q1, q2⟩ := rt_new Hg.out Hb.out HOx.size HE HOe
        rw [HM.out] at q1
        rw [HRes.out]
        exact ⟨rfl, S', q1, HOx, q2⟩
set_option maxHeartbeats 1000000 in
set_option maxRecDepth 100000 in
theorem rdo_any {w : World} {S : Nat → Prop} {g : Nat} {s : Rt} (h : RtIn w S g s) (hf : s.fit) (e : Op) (A' : Option Addr) (c' : Nat) (Pb : Nat → Prop) (hs : Sl w Pb A' c' e.b) (hP : ∀ b, Pb b → ¬ S b) (hbl : e.b.length ≤ 1000000) :
    Calls Try.prog 12 #[.pointer (some ⟨g, 0, none⟩), opV e A' e.b.length c'] w fun y w' => RDoes w S g (rstep s e) y w' := by
  obtain ⟨w1, hw⟩ : ∃ z, z = w.alloc (.cells #[.int .u8 (e.kind : Int), .slice A' e.b.length c', .int .i64 e.n] tO) := ⟨_, rfl⟩
  have hb : Below w.heap.size w w1 := by rw [hw]; exact (Below.refl _ w).alloc (Nat.le_refl _) _
  have h1 := h.below hb
  have hrb : Row w1 w.heap.size tO [.int .u8 (e.kind : Int), .slice A' e.b.length c', .int .i64 e.n] := by rw [hw]; exact Row.fresh w tO _
  have hs1 : Sl w1 (fun b => Pb b ∧ b < w.heap.size) A' c' e.b := hs.bound.move fun b hb' _ => hb.block b hb'.2
  have P0 := hide (rput_any h1 hf e.b A' c' _ hs1 (fun b x => hP b x.1) hbl)
  have P1 := hide (rcut_any h1 hf e.n)
  have H1 := hide h1
  have k0 := hrb.cell 0
  have k1 := hrb.cell 1
  have k2 := hrb.cell 2
  simp only [List.getElem?_cons_zero, List.getElem?_cons_succ] at k0 k1 k2
  have HB := hide hb
  have HW := hide hw
  have HRb := hide hrb
  have Hlt := hide h.lt
  obtain ⟨N, hN⟩ : ∃ N, N = e.b.length := ⟨_, rfl⟩
  rw [← hN] at HW P0 k1 HRb ⊢
  clear hw h1 hrb hs1 hb hs hN h hf hP hbl
  unfold rstep
  by_cases e0 : e.kind = 0
  · rw [if_pos e0]
    have hk : ((e.kind : Int) == 0) = true := by rw [beq_iff_eq]; omega
    clear e0
    go_enter Try.func12, Try.ntmps12
    go_wp2_with (first | rw [← HW.out] | fail)
    refine P0.out.mono ?_
    rintro y w2 hD
    have HD := hide (hD.over HB.out)
    obtain ⟨rfl, _⟩ := hD
    clear hk
    go_wp2
    go_ret
    exact HD.out
  · rw [if_neg e0]
    have hk0 : ((e.kind : Int) == 0) = false := by rw [beq_eq_false_iff_ne]; omega
    by_cases e1 : e.kind = 1
    · rw [if_pos e1]
      have hk : ((e.kind : Int) == 1) = true := by rw [beq_iff_eq]; omega
      clear e0 e1
      go_enter Try.func12, Try.ntmps12
      go_wp2_with (first | rw [← HW.out] | fail)
      refine P1.out.mono ?_
      rintro y w2 hD
      have HD := hide (hD.over HB.out)
      obtain ⟨rfl, _⟩ := hD
      clear hk hk0
      go_wp2
      go_ret
      exact HD.out
    · rw [if_neg e1]
      have hk1 : ((e.kind : Int) == 1) = false := by rw [beq_eq_false_iff_ne]; omega
      obtain ⟨v, hr, ho, hg, hb⟩ := H1.out
      have hne : w.heap.size ≠ g := fun x => by have := Hlt.out g hg; omega
      by_cases e2 : e.kind = 2
      · rw [if_pos e2]
        have hk : ((e.kind : Int) == 2) = true := by rw [beq_iff_eq]; omega
        obtain ⟨F2, hF2⟩ : ∃ F, F = (if 0 < e.n then e.n else 0) := ⟨_, rfl⟩
        have HD := hide (show RDoes w S g (rfused s e.n, 0) (.returned (.int .i64 0)) ((w1.setCell ⟨g, 2, none⟩ (.bool (decide (0 ≤ e.n)))).setCell ⟨g, 3, none⟩ (.int .i64 F2)) from by
          refine RDoes.over (W := w1) (r := (rfused s e.n, 0)) (y := .returned (.int .i64 0)) ⟨rfl, S, ⟨v, ?_, ?_, hg, fun k hk => ?_⟩, ?_, fun k hk => .inl hk⟩ HB.out
          · rw [hF2]; exact (hr.put 2 (.bool (decide (0 ≤ e.n)))).put 3 _
          · exact ho.move fun b hb _ => (Below.heap_setCell _ ⟨g, 3, none⟩ _ b hb.2).trans (Below.heap_setCell w1 ⟨g, 2, none⟩ _ b hb.2)
          · have := hb k hk; simpa [World.setCell] using this
          · exact ((Oth.refl S w1).put (g := g) (i := 2) (.inl hg) _).put (g := g) (i := 3) (.inl hg) _)
        have c2 := hr.cell 2
        have g2 := hr.free 2
        have hr2 := hr.put 2 (.bool (decide (0 ≤ e.n)))
        have c3 := hr2.cell 3
        have g3 := hr2.free 3
        have k2' : (w1.setCell ⟨g, 2, none⟩ (.bool (decide (0 ≤ e.n)))).cell? ⟨w.heap.size, 2, none⟩ = some (.int .i64 e.n) := (World.cell?_of_block (Below.heap_setCell w1 ⟨g, 2, none⟩ _ w.heap.size hne)).trans k2
        have k0' : (w1.setCell ⟨g, 2, none⟩ (.bool (decide (0 ≤ e.n)))).cell? ⟨w.heap.size, 0, none⟩ = some (.int .u8 (e.kind : Int)) := (World.cell?_of_block (Below.heap_setCell w1 ⟨g, 2, none⟩ _ w.heap.size hne)).trans k0
        simp only [rtC, List.set_cons_succ, List.set_cons_zero, List.getElem?_cons_zero, List.getElem?_cons_succ] at c2 c3
        have hmx : (if (0 : Int) < e.n then e.n else 0) = F2 := hF2.symm
        clear e0 e1 e2 hr ho hg hb hr2 hF2
        go_enter Try.func12, Try.ntmps12
        go_wp2_with (first | rw [← HW.out] | fail)
        go_ret
        exact HD.out
      · rw [if_neg e2]
        have hk2 : ((e.kind : Int) == 2) = false := by rw [beq_eq_false_iff_ne]; omega
        by_cases e3 : e.kind = 3
        · rw [if_pos e3]
          have hk : ((e.kind : Int) == 3) = true := by rw [beq_iff_eq]; omega
          have HD := hide (show RDoes w S g (rbegun s, 0) (.returned (.int .i64 0)) ((w1.setCell ⟨g, 4, none⟩ (.bool false)).setCell ⟨g, 2, none⟩ (.bool false)) from by
            refine RDoes.over (W := w1) (r := (rbegun s, 0)) (y := .returned (.int .i64 0)) ⟨rfl, S, ⟨v, ?_, ?_, hg, fun k hk => ?_⟩, ?_, fun k hk => .inl hk⟩ HB.out
            · exact (hr.put 4 (.bool false)).put 2 (.bool false)
            · exact ho.move fun b hb _ => (Below.heap_setCell _ ⟨g, 2, none⟩ _ b hb.2).trans (Below.heap_setCell w1 ⟨g, 4, none⟩ _ b hb.2)
            · have := hb k hk; simpa [World.setCell] using this
            · exact ((Oth.refl S w1).put (g := g) (i := 4) (.inl hg) _).put (g := g) (i := 2) (.inl hg) _)
          have c4 := hr.cell 4
          have g4 := hr.free 4
          have hr2 := hr.put 4 (.bool false)
          have c2 := hr2.cell 2
          have g2 := hr2.free 2
          simp only [rtC, List.set_cons_succ, List.set_cons_zero, List.getElem?_cons_zero, List.getElem?_cons_succ] at c2 c4
          clear e0 e1 e2 e3 hr ho hg hb hr2
          go_enter Try.func12, Try.ntmps12
          go_wp2_with (first | rw [← HW.out] | fail)
          go_ret
          exact HD.out
        · rw [if_neg e3]
          have hk3 : ((e.kind : Int) == 3) = false := by rw [beq_eq_false_iff_ne]; omega
          have HD := hide (RDoes.over (y := .returned (.int .i64 0)) (r := (s, 0)) ⟨rfl, S, H1.out, Oth.refl S w1, fun k hk => .inl hk⟩ HB.out)
          clear e0 e1 e2 e3 hr ho hg hb
          go_enter Try.func12, Try.ntmps12
          go_wp2_with (first | rw [← HW.out] | fail)
          go_ret
          exact HD.out
end Go.Proofs.Ytahcokfoifdlmaa.Dk
