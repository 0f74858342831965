/-
  A disk in memory: Append, Cut and Copy.
-/
import Derived.Test.YtcmjdepjckhpdaaDoorSD
import Derived.Test.YtcmjdepjckhpdaaDoorQZB
namespace Go.Proofs.YtcmjdepjckhpdaaDoor.Dk
open Go Go.RowKit Kt Kg Wr

abbrev Does (w : World) (S : Nat → Prop) (g : Nat) (r : St × Nat) (y : Ending) (w' : World) : Prop :=
  y = .returned (.int .i64 (r.2 : Int)) ∧ ∃ S', DkIn w' S' g r.1 ∧ Oth S w w' ∧ ∀ k, S' k → S k ∨ w.heap.size ≤ k
theorem Does.over {w W : World} {S : Nat → Prop} {g : Nat} {r : St × Nat} {y : Ending} {w' : World} (h : Does W S g r y w') (hb : Below w.heap.size w W) : Does w S g r y w' := by
  obtain ⟨h1, S', h2, h3, h4⟩ := h
  exact ⟨h1, S', h2, (Oth.of_below S hb).trans h3 fun _ _ x => x, fun k hk => (h4 k hk).imp id fun x => Nat.le_trans hb.size x⟩
theorem clo_any (w : World) (S : Nat → Prop) (g bb bd : Nat) (s : St) (bs : List UInt8) (A : Option Addr) (c : Nat) (Pb : Nat → Prop) (hD : DkIn w S g s) (hf : s.fit) (hd : s.dead = false) (hrb : Row w bb tB [.slice A bs.length c]) (hrd : Row w bd tP [.pointer (some ⟨g, 0, none⟩)]) (hnb : ¬ S bb) (hnd : ¬ S bd) (hs : Sl w Pb A c bs) :
    Calls Tryd.prog 43 #[.pointer (some ⟨bb, 0, none⟩), .pointer (some ⟨bd, 0, none⟩)] w fun y w' => Does w S g (put s bs) y w' := by
  unfold put
  rw [if_neg (by rw [hd]; decide)]
  by_cases h1 : s.room < s.k.length + bs.length
  · rw [if_pos h1]
    exact put_full w S g bb bd s bs A c Pb hD hf hd hrb hrd hnb hnd hs h1
  · rw [if_neg h1]
    by_cases h2 : s.fuse = -1
    · rw [if_neg (fun x => x.1 h2), if_pos h2]
      exact put_none w S g bb bd s bs A c Pb hD hf hd hrb hrd hnb hnd hs h1 h2
    · by_cases h3 : s.fuse < (bs.length : Int)
      · rw [if_pos ⟨h2, h3⟩]
        exact put_tears w S g bb bd s bs A c Pb hD hf hd hrb hrd hnb hnd hs h1 h2 h3
      · rw [if_neg (fun x => h3 x.2), if_neg h2]
        exact put_fuse w S g bb bd s bs A c Pb hD hf hd hrb hrd hnb hnd hs h1 h2 h3
set_option maxHeartbeats 1000000 in
set_option maxRecDepth 100000 in
/-- whether it is dead is asked once: what is to be done is done -/
theorem alive_put {w : World} {g : Nat} {a b : Value} {R : Value → World → Prop} (c3 : w.cell? ⟨g, 3, none⟩ = some (.bool false)) (hf : Calls Tryd.prog 43 #[a, b] w fun y w' => ∃ v, y = .returned v ∧ R v w') :
    Calls Tryd.prog 42 #[.pointer (some ⟨g, 0, none⟩), .func (.func 43) #[] #[a, b]] w fun y w' => ∃ v, y = .returned v ∧ R v w' := by
  have Hf := hide hf
  clear hf
  go_enter Tryd.func42, Tryd.ntmps42
  go_wp2_with fail
  refine Hf.out.mono ?_
  rintro y w1 ⟨v, rfl, hR⟩
  have HR := hide hR
  clear hR
  go_wp2
  go_ret
  exact ⟨v, rfl, HR.out⟩
set_option maxHeartbeats 1000000 in
set_option maxRecDepth 100000 in
theorem alive_cut {w : World} {g : Nat} {a b : Value} {R : Value → World → Prop} (c3 : w.cell? ⟨g, 3, none⟩ = some (.bool false)) (hf : Calls Tryd.prog 48 #[a, b] w fun y w' => ∃ v, y = .returned v ∧ R v w') :
    Calls Tryd.prog 42 #[.pointer (some ⟨g, 0, none⟩), .func (.func 48) #[] #[a, b]] w fun y w' => ∃ v, y = .returned v ∧ R v w' := by
  have Hf := hide hf
  clear hf
  go_enter Tryd.func42, Tryd.ntmps42
  go_wp2_with fail
  refine Hf.out.mono ?_
  rintro y w1 ⟨v, rfl, hR⟩
  have HR := hide hR
  clear hR
  go_wp2
  go_ret
  exact ⟨v, rfl, HR.out⟩
set_option maxHeartbeats 1000000 in
set_option maxRecDepth 100000 in
theorem not_alive {w : World} {g : Nat} {f : Value} (c3 : w.cell? ⟨g, 3, none⟩ = some (.bool true)) :
    Calls Tryd.prog 42 #[.pointer (some ⟨g, 0, none⟩), f] w fun y w' => y = .returned (.int .i64 9) ∧ w = w' := by
  go_enter Tryd.func42, Tryd.ntmps42
  go_wp2
  go_ret
  exact ⟨rfl, rfl⟩
theorem DkIn.cell3 {w : World} {S : Nat → Prop} {g : Nat} {s : St} (h : DkIn w S g s) : w.cell? ⟨g, 3, none⟩ = some (.bool s.dead) := by
  obtain ⟨v, hr, _⟩ := h; exact hr.cell 3
set_option maxHeartbeats 1000000 in
set_option maxRecDepth 100000 in
theorem put_any {w : World} {S : Nat → Prop} {g : Nat} {s : St} (h : DkIn w S g s) (hf : s.fit) (bs : List UInt8) (A : Option Addr) (c : Nat) (Pb : Nat → Prop) (hs : Sl w Pb A c bs) :
    Calls Tryd.prog 21 #[.pointer (some ⟨g, 0, none⟩), .slice A bs.length c] w fun y w' => Does w S g (put s bs) y w' := by
  obtain ⟨w1, hw⟩ : ∃ z, z = (w.alloc (.cells #[.pointer (some ⟨g, 0, none⟩)] tP)).alloc (.cells #[.slice A bs.length c] tB) := ⟨_, rfl⟩
  have hb : Below w.heap.size w w1 := by rw [hw]; exact ((Below.refl _ w).alloc (Nat.le_refl _) _).alloc (by simp) _
  have h1 := h.below hb
  have hrd : Row w1 w.heap.size tP [.pointer (some ⟨g, 0, none⟩)] := by rw [hw]; exact (Row.fresh w tP _).alloc _
  have hrb : Row w1 (w.heap.size + 1) tB [.slice A bs.length c] := by rw [hw]; exact Row.new _ tB (by simp) rfl
  have hs1 : Sl w1 (fun b => Pb b ∧ b < w.heap.size) A c bs := hs.bound.move fun b hb' _ => hb.block b hb'.2
  have hc := h1.cell3
  have hlt := h.lt
  have Hmain := hide (fun hd : s.dead = false => clo_any w1 S g (w.heap.size + 1) w.heap.size s bs A c _ h1 hf hd hrb hrd (fun x => by have := hlt _ x; omega) (fun x => by have := hlt _ x; omega) hs1)
  have Hd := hide (show s.dead = true → Does w S g (put s bs) (.returned (.int .i64 9)) w1 from fun hd => by
    unfold put
    rw [if_pos hd]
    exact ⟨rfl, S, h1, Oth.of_below S hb, fun k hk => .inl hk⟩)
  have cd := hrd.cell 0
  have cb := hrb.cell 0
  simp only [List.getElem?_cons_zero] at cd cb
  have HB := hide hb
  have HW := hide hw
  obtain ⟨N, hN⟩ : ∃ N, N = bs.length := ⟨_, rfl⟩
  have hN' := hN
  rw [← hN] at hw ⊢
  have HW := hide hw
  clear hw h1 hrd hrb hs1 hlt hb hs hN hN' h hf
  generalize hdd : s.dead = d at hc Hmain Hd
  have Hdd := hide hdd
  clear hdd
  cases d with
  | false =>
    go_enter Tryd.func21, Tryd.ntmps21
    go_wp2_with (first | rw [← HW.out] | fail)
    refine (alive_put (R := fun v w' => Does w S g (put s bs) (.returned v) w') hc ((Hmain.out trivial).mono fun y w' h => ⟨_, h.1, h.1 ▸ Does.over h HB.out⟩)).mono ?_
    rintro y w2 ⟨v, rfl, hR⟩
    have HR := hide hR
    clear hR
    go_wp2
    go_ret
    exact HR.out
  | true =>
    go_enter Tryd.func21, Tryd.ntmps21
    go_wp2_with (first | rw [← HW.out] | fail)
    refine (not_alive hc).mono ?_
    rintro y w2 ⟨rfl, rfl⟩
    go_wp2
    go_ret
    exact Hd.out trivial

/-! ### Cut -/
abbrev tI : TypeId := 3
set_option maxHeartbeats 1000000 in
set_option maxRecDepth 100000 in
theorem cut_low (w : World) (S : Nat → Prop) (g bb bd : Nat) (s : St) (n : Int) (hD : DkIn w S g s) (hrb : Row w bb tI [.int .i64 n]) (hrd : Row w bd tP [.pointer (some ⟨g, 0, none⟩)]) (hn : n < 0) :
    Calls Tryd.prog 48 #[.pointer (some ⟨bb, 0, none⟩), .pointer (some ⟨bd, 0, none⟩)] w fun y w' => Does w S g (s, 1) y w' := by
  have HD := hide hD
  have cb : w.cell? ⟨bb, 0, none⟩ = some (.int .i64 n) := hrb.cell 0
  have cd : w.cell? ⟨bd, 0, none⟩ = some (.pointer (some ⟨g, 0, none⟩)) := hrd.cell 0
  have hc : decide (n < 0) = true := decide_eq_true hn
  clear hD hrb hrd
  go_enter Tryd.func48, Tryd.ntmps48
  go_wp2
  go_quiet (fail)
  go_wp2
  go_ret
  exact ⟨rfl, S, HD.out, (Oth.refl S w).drewN nq, fun k hk => .inl hk⟩
set_option maxHeartbeats 1000000 in
set_option maxRecDepth 100000 in
theorem cut_high (w : World) (S : Nat → Prop) (g bb bd : Nat) (s : St) (n : Int) (hD : DkIn w S g s) (hrb : Row w bb tI [.int .i64 n]) (hrd : Row w bd tP [.pointer (some ⟨g, 0, none⟩)]) (hn : ¬ n < 0) (hn2 : (s.k.length : Int) < n) :
    Calls Tryd.prog 48 #[.pointer (some ⟨bb, 0, none⟩), .pointer (some ⟨bd, 0, none⟩)] w fun y w' => Does w S g (s, 1) y w' := by
  have HD := hide hD
  have HZ := hide (fun i : Nat => (size_any (show DkIn (w.drewN i) S g s from hD)).mono (R' := fun y w' => y = .returned (.int .i64 (s.k.length : Nat)) ∧ w' = w.drewN i) fun y w' h => ⟨h.1, h.2.symm⟩)
  have cb : w.cell? ⟨bb, 0, none⟩ = some (.int .i64 n) := hrb.cell 0
  have cd : w.cell? ⟨bd, 0, none⟩ = some (.pointer (some ⟨g, 0, none⟩)) := hrd.cell 0
  have hc : decide (n < 0) = false := decide_eq_false hn
  obtain ⟨N, hN⟩ : ∃ N, N = s.k.length := ⟨_, rfl⟩
  rw [← hN] at HZ hn2
  have hc2 : decide ((N : Int) < n) = true := decide_eq_true hn2
  clear hD hrb hrd hN
  go_enter Tryd.func48, Tryd.ntmps48
  go_wp2
  go_quiet (with_reducible exact Calls.quiet_of_same (HZ.out _))
  go_wp2
  go_ret
  exact ⟨rfl, S, HD.out, (Oth.refl S w).drewN nq, fun k hk => .inl hk⟩
set_option maxHeartbeats 1000000 in
set_option maxRecDepth 100000 in
theorem cut_yes (w : World) (S : Nat → Prop) (g bb bd : Nat) (s : St) (n : Nat) (hD : DkIn w S g s) (hd : s.dead = false) (hrb : Row w bb tI [.int .i64 (n : Int)]) (hrd : Row w bd tP [.pointer (some ⟨g, 0, none⟩)]) (hn : n ≤ s.k.length) :
    Calls Tryd.prog 48 #[.pointer (some ⟨bb, 0, none⟩), .pointer (some ⟨bd, 0, none⟩)] w fun y w' => Does w S g (⟨s.k.take n, s.room, s.fuse, false⟩, 0) y w' := by
  have HZ := hide (fun i : Nat => (size_any (show DkIn (w.drewN i) S g s from hD)).mono (R' := fun y w' => y = .returned (.int .i64 (s.k.length : Nat)) ∧ w' = w.drewN i) fun y w' h => ⟨h.1, h.2.symm⟩)
  have cb : w.cell? ⟨bb, 0, none⟩ = some (.int .i64 (n : Int)) := hrb.cell 0
  have cd : w.cell? ⟨bd, 0, none⟩ = some (.pointer (some ⟨g, 0, none⟩)) := hrd.cell 0
  obtain ⟨v, hr, ho, hg, hb⟩ := hD
  rw [hd] at hr
  obtain ⟨A, c, rfl, hlc, hcut⟩ := ho.cut hn
  have hc : decide ((n : Int) < 0) = false := decide_eq_false (by omega)
  obtain ⟨N, hN⟩ : ∃ N, N = s.k.length := ⟨_, rfl⟩
  rw [← hN] at HZ hn hr hlc
  have hnN : ¬ N < n := by omega
  have hc2 : decide (N < n) = false := decide_eq_false hnN
  have hc3 : decide ((N : Int) < (n : Int)) = false := decide_eq_false (by omega)
  have Hsl := hide (fun w => run_three w A N c n hn hlc)
  have k0 := hr.cell 0
  have f0 := hr.free 0
  simp only [List.getElem?_cons_zero] at k0
  have HR := hide hr
  have Hcut := hide hcut
  have Hg := hide hg
  have Hb := hide hb
  clear hr ho hg hb hcut hrb hrd hN hn hlc
  go_enter Tryd.func48, Tryd.ntmps48
  go_wp2
  go_quiet (with_reducible exact Calls.quiet_of_same (HZ.out _))
  obtain ⟨w1, hw⟩ : ∃ z, z = w.drewN nq := ⟨_, rfl⟩
  have cb1 : w1.cell? ⟨bb, 0, none⟩ = some (.int .i64 (n : Int)) := by rw [hw]; exact cb
  have cd1 : w1.cell? ⟨bd, 0, none⟩ = some (.pointer (some ⟨g, 0, none⟩)) := by rw [hw]; exact cd
  have k01 : w1.cell? ⟨g, 0, none⟩ = some (.slice A N c) := by rw [hw]; exact k0
  have f01 : w1.frozen? ⟨g, 0, none⟩ = false := by rw [hw]; exact f0
  have HR1 : Row w1 g tD [.slice A N c, .int .i64 (s.room : Int), .int .i64 s.fuse, .bool false] := by rw [hw]; exact HR.out
  have HC1 : OwnS w1 (fun b => S b ∧ b ≠ g) tU8 (.slice A n n) (s.k.take n) := by rw [hw]; exact Hcut.out
  have HO1 : Oth S w w1 := by rw [hw]; exact (Oth.refl S w).drewN nq
  rw [← hw]
  clear hw cb cd k0 f0 HR Hcut HZ
  have HR := hide HR1
  have HC := hide HC1
  have HO := hide HO1
  clear HR1 HC1 HO1
  go_wp2
  refine Rg.wp_region_ord (fun w' => w'.cell? ⟨bb, 0, none⟩ = some (.int .i64 (n : Int)) ∧ w'.cell? ⟨bd, 0, none⟩ = some (.pointer (some ⟨g, 0, none⟩)) ∧ w'.cell? ⟨g, 0, none⟩ = some (.slice A N c) ∧ True) [(0, true), (1, true), (2, true), (3, true), (4, true), (5, true), (6, true), (7, true), (8, true), (9, true), (10, false)] (by kernel_rfl) (by kernel_rfl) ?_
  simp only [Rg.pick, List.map_cons, List.map_nil, List.getD_cons_zero, List.getD_cons_succ]
  iterate 7 (refine Rg.ord_quiet (v := ?_) rfl (fun w' hS => ?_) ⟨cb1, cd1, k01, trivial⟩ ?_; rotate_left; (obtain ⟨s1, s2, s3, s4⟩ := hS; go_simp; with_reducible rfl); simp only [Act.put, List.setIfInBounds_toArray, List.set_cons_succ, List.set_cons_zero])
  refine Rg.ord_quiet (v := .slice A n n) rfl (fun w' hS => ?_) ⟨cb1, cd1, k01, trivial⟩ ?_
  · have hq := Hsl.out w'
    clear hS
    go_simp
  simp only [Act.put, List.setIfInBounds_toArray, List.set_cons_succ, List.set_cons_zero]
  iterate 2 (refine Rg.ord_quiet (v := ?_) rfl (fun w' hS => ?_) ⟨cb1, cd1, k01, trivial⟩ ?_; rotate_left; (obtain ⟨s1, s2, s3, s4⟩ := hS; go_simp; with_reducible rfl); simp only [Act.put, List.setIfInBounds_toArray, List.set_cons_succ, List.set_cons_zero])
  refine Rg.ord_loud rfl (fun K hK => ?_)
  go_simp
  have HR2 := hide (HR.out.put 0 (.slice A n n))
  have HC2 := hide (own_put (i := 0) (u := .slice A n n) HC.out)
  have HO2 := hide (HO.out.put (g := g) (i := 0) (.inl Hg.out) (.slice A n n))
  refine hK _ _ (fun hf => absurd (show Rg.sink _ 10 = true from by kernel_rfl) (by rw [hf]; decide)) ?_
  clear hK K cb1 cd1 k01 f01
  refine Rg.ord_nil ?_
  go_wp2
  go_ret
  refine ⟨rfl, S, ⟨_, HR2.out, HC2.out, Hg.out, fun k hk => Nat.lt_of_lt_of_le (Hb.out k hk) HO2.out.size⟩, HO2.out.drew, fun k hk => .inl hk⟩
theorem cclo_any (w : World) (S : Nat → Prop) (g bb bd : Nat) (s : St) (n : Int) (hD : DkIn w S g s) (hd : s.dead = false) (hrb : Row w bb tI [.int .i64 n]) (hrd : Row w bd tP [.pointer (some ⟨g, 0, none⟩)]) :
    Calls Tryd.prog 48 #[.pointer (some ⟨bb, 0, none⟩), .pointer (some ⟨bd, 0, none⟩)] w fun y w' => Does w S g (cut s n) y w' := by
  unfold cut
  rw [if_neg (by rw [hd]; decide)]
  by_cases h1 : n < 0
  · rw [if_pos (.inl h1)]
    exact cut_low w S g bb bd s n hD hrb hrd h1
  · by_cases h2 : (s.k.length : Int) < n
    · rw [if_pos (.inr h2)]
      exact cut_high w S g bb bd s n hD hrb hrd h1 h2
    · rw [if_neg (fun x => x.elim h1 h2)]
      obtain ⟨m, rfl⟩ : ∃ m : Nat, n = (m : Int) := ⟨n.toNat, by omega⟩
      rw [show ((m : Int)).toNat = m from by omega]
      exact cut_yes w S g bb bd s m hD hd hrb hrd (by omega)
set_option maxHeartbeats 1000000 in
set_option maxRecDepth 100000 in
theorem cut_any {w : World} {S : Nat → Prop} {g : Nat} {s : St} (h : DkIn w S g s) (n : Int) :
    Calls Tryd.prog 30 #[.pointer (some ⟨g, 0, none⟩), .int .i64 n] w fun y w' => Does w S g (cut s n) y w' := by
  obtain ⟨w1, hw⟩ : ∃ z, z = (w.alloc (.cells #[.pointer (some ⟨g, 0, none⟩)] tP)).alloc (.cells #[.int .i64 n] tI) := ⟨_, rfl⟩
  have hb : Below w.heap.size w w1 := by rw [hw]; exact ((Below.refl _ w).alloc (Nat.le_refl _) _).alloc (by simp) _
  have h1 := h.below hb
  have hrd : Row w1 w.heap.size tP [.pointer (some ⟨g, 0, none⟩)] := by rw [hw]; exact (Row.fresh w tP _).alloc _
  have hrb : Row w1 (w.heap.size + 1) tI [.int .i64 n] := by rw [hw]; exact Row.new _ tI (by simp) rfl
  have hc := h1.cell3
  have Hmain := hide (fun hd : s.dead = false => cclo_any w1 S g (w.heap.size + 1) w.heap.size s n h1 hd hrb hrd)
  have Hd := hide (show s.dead = true → Does w S g (cut s n) (.returned (.int .i64 9)) w1 from fun hd => by
    unfold cut
    rw [if_pos hd]
    exact ⟨rfl, S, h1, Oth.of_below S hb, fun k hk => .inl hk⟩)
  have cd := hrd.cell 0
  have cb := hrb.cell 0
  simp only [List.getElem?_cons_zero] at cd cb
  have HB := hide hb
  have HW := hide hw
  clear hw h1 hrd hrb hb h
  generalize hdd : s.dead = d at hc Hmain Hd
  clear hdd
  cases d with
  | false =>
    go_enter Tryd.func30, Tryd.ntmps30
    go_wp2_with (first | rw [← HW.out] | fail)
    refine (alive_cut (R := fun v w' => Does w S g (cut s n) (.returned v) w') hc ((Hmain.out trivial).mono fun y w' h => ⟨_, h.1, h.1 ▸ Does.over h HB.out⟩)).mono ?_
    rintro y w2 ⟨v, rfl, hR⟩
    have HR := hide hR
    clear hR
    go_wp2
    go_ret
    exact HR.out
  | true =>
    go_enter Tryd.func30, Tryd.ntmps30
    go_wp2_with (first | rw [← HW.out] | fail)
    refine (not_alive hc).mono ?_
    rintro y w2 ⟨rfl, rfl⟩
    go_wp2
    go_ret
    exact Hd.out trivial
end Go.Proofs.YtcmjdepjckhpdaaDoor.Dk
namespace Go.Proofs.YtcmjdepjckhpdaaDoor.Wr
open Go Go.RowKit Kt

theorem same_of (l r : List UInt8) (hl : l.length = r.length) (h : ∀ j, j < l.length → l.getD j 0 = r.getD j 0) : l = r := by
  apply List.ext_getElem hl
  intro i h1 h2
  have := h i h1
  simpa [List.getElem?_eq_getElem h1, List.getElem?_eq_getElem h2] using this

set_option maxHeartbeats 1000000 in
set_option maxRecDepth 100000 in
theorem bytes_any (l r : List UInt8) (A A' : Option Addr) (c c' : Nat) (Pb Pb' : Nat → Prop) (w : World) (hs : Sl w Pb A c l) (hs' : Sl w Pb' A' c' r) (hl : l.length ≤ 9223372036854775807) :
    Calls Tryd.prog 18 #[.slice A l.length c, .slice A' r.length c'] w fun y w' => y = .returned (.bool (decide (l = r))) ∧ Below w.heap.size w w' := by
  by_cases hlen : l.length = r.length
  · have hlr : r.length ≤ 9223372036854775807 := by omega
    have Hs := hide hs.bound
    have Hs' := hide hs'.bound
    clear hs hs'
    have hb0 : ((l.length : Int) != (r.length : Int)) = false := by rw [bne_eq_false_iff_eq]; omega
    have Hlen := hide hlen
    obtain ⟨N, hN⟩ : ∃ N, N = l.length := ⟨_, rfl⟩
    obtain ⟨N', hN'⟩ : ∃ N', N' = r.length := ⟨_, rfl⟩
    rw [← hN, ← hN'] at hb0 ⊢
    have HN := hide hN
    have HN' := hide hN'
    have hNl : N ≤ 9223372036854775807 := by omega
    have hNN : N = N' := by omega
    have HNN := hide hNN
    clear hN hN' hl hlr hlen hNN
    go_enter Tryd.func18, Tryd.ntmps18
    go_wp2
    go_loopw [5] (fun i wr => ∃ k : Nat, k ≤ N ∧ i = .int .i64 k ∧ (∀ j, j < k → l.getD j 0 = r.getD j 0) ∧ Below w.heap.size w wr) (fun i _ => N - (intOf i).toNat)
    case atStart => exact ⟨0, Nat.zero_le _, rfl, fun j h => absurd h (Nat.not_lt_zero _), Below.refl _ _⟩
    case round =>
      obtain ⟨k, hk, rfl, hall, hb⟩ := hrel
      have Hall := hide hall
      have Hb := hide hb
      clear hall hb
      by_cases hlt : k < N
      · obtain ⟨b, o, rfl, hp, hc⟩ := Hs.out.2 (by have := HN.out; omega)
        obtain ⟨b', o', rfl, hp', hc'⟩ := Hs'.out.2 (by have := HN'.out; have := HNN.out; omega)
        have ck : wr.cell? ⟨b, o + k, none⟩ = some (.int .u8 ((l.getD k 0).toNat : Int)) := (World.cell?_of_block (a := ⟨b, o + k, none⟩) (Hb.out.block b hp.2)).trans (hc k (by have := HN.out; omega))
        have ck' : wr.cell? ⟨b', o' + k, none⟩ = some (.int .u8 ((r.getD k 0).toNat : Int)) := (World.cell?_of_block (a := ⟨b', o' + k, none⟩) (Hb.out.block b' hp'.2)).trans (hc' k (by have := HN'.out; have := HNN.out; omega))
        clear hc hc' hp hp'
        have hlt' : k < N' := by have := HNN.out; omega
        by_cases hx : l.getD k 0 = r.getD k 0
        · have Hx := hide hx
          rw [hx] at ck
          clear hx
          generalize (r.getD k 0).toNat = x at *
          go_wp2
          go_quiet (fail)
          go_wp2
          refine ⟨⟨k + 1, by omega, by go_num, fun j hj => ?_, below_drewN Hb.out _⟩, by simp [intOf]; omega⟩
          rcases Nat.lt_or_ge j k with hj' | hj'
          · exact Hall.out j hj'
          · obtain rfl : j = k := by omega
            exact Hx.out
        · have hxn : (((l.getD k 0).toNat : Int) != ((r.getD k 0).toNat : Int)) = true := by
            rw [bne_iff_ne]
            intro he
            exact hx (UInt8.toNat_inj.1 (by omega))
          have Hx := hide hx
          clear hx
          generalize (r.getD k 0).toNat = x at *
          generalize (l.getD k 0).toNat = y at *
          go_wp2
          go_quiet (fail)
          go_wp2
          go_ret
          refine ⟨?_, below_drewN Hb.out _⟩
          have hd : decide (l = r) = false := decide_eq_false fun h => Hx.out (by rw [h])
          rw [hd]; rfl
      · obtain rfl : k = N := by omega
        go_wp2
        go_ret
        refine ⟨?_, Hb.out⟩
        have hd : decide (l = r) = true := decide_eq_true (same_of l r Hlen.out fun j hj => Hall.out j (by have := HN.out; omega))
        rw [hd]; rfl
  · have hb0 : ((l.length : Int) != (r.length : Int)) = true := by rw [bne_iff_ne]; omega
    have Hd := hide (show decide (l = r) = false from decide_eq_false fun h => hlen (by rw [h]))
    clear hs hs' hlen
    go_enter Tryd.func18, Tryd.ntmps18
    go_wp2
    go_ret
    exact ⟨by rw [Hd.out]; rfl, Below.refl _ _⟩
end Go.Proofs.YtcmjdepjckhpdaaDoor.Wr
