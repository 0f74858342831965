/-
  A disk in memory: Append, Cut and Copy.
-/
import Derived.Test.YtcmjdepjckhpdabDoorSD
import Derived.Test.YtcmjdepjckhpdabDoorQZB
import Derived.Test.YtcmjdepjckhpdabDoorLaw
import Derived.Deep.Slices
import Derived.Deep.Fields
import Derived.Deep.Strs
import Derived.Lib.SlBytesConst
import Derived.Test.YtcmjdepjckhpdabDoorQWS
namespace Go.Proofs.YtcmjdepjckhpdabDoor.Dk
open Go Go.RowKit Kt Kg Wr

abbrev Does (w : World) (S : Nat → Prop) (g : Nat) (r : St × Nat) (y : Ending) (w' : World) : Prop :=
  y = .returned (.int .i64 (r.2 : Int)) ∧ ∃ S', DkIn w' S' g r.1 ∧ Oth S w w' ∧ ∀ k, S' k → S k ∨ w.heap.size ≤ k
theorem Does.over {w W : World} {S : Nat → Prop} {g : Nat} {r : St × Nat} {y : Ending} {w' : World} (h : Does W S g r y w') (hb : Below w.heap.size w W) : Does w S g r y w' := by
  obtain ⟨h1, S', h2, h3, h4⟩ := h
  exact ⟨h1, S', h2, (Oth.of_below S hb).trans h3 fun _ _ x => x, fun k hk => (h4 k hk).imp id fun x => Nat.le_trans hb.size x⟩
theorem clo_any (w : World) (S : Nat → Prop) (g bb bd : Nat) (s : St) (bs : List UInt8) (A : Option Addr) (c : Nat) (Pb : Nat → Prop) (hD : DkIn w S g s) (hf : s.fit) (hd : s.dead = false) (hrb : Row w bb tB [.slice A bs.length c]) (hrd : Row w bd tP [.pointer (some ⟨g, 0, none⟩)]) (hnb : ¬ S bb) (hnd : ¬ S bd) (hs : Sl w Pb A c bs) :
    Calls Tryd.prog 36 #[.pointer (some ⟨bb, 0, none⟩), .pointer (some ⟨bd, 0, none⟩)] w fun y w' => Does w S g (put s bs) y w' := by
  unfold put
  rw [if_neg (by rw [hd]; decide)]
  by_cases h1 : s.room < s.k.length + bs.length
  · rw [if_pos h1]
    exact put_full w S g bb bd s bs A c Pb hD hf hd hrb hrd hnb hnd hs h1
  · rw [if_neg h1]
    by_cases h2 : s.fuse = -1
    · rw [if_neg (fun x => x.1 h2), if_pos h2]
      exact put_none w S g bb bd s bs A c Pb hD hf hd hrb hrd hnb hnd hs h1 h2
    · by_cases h3 : s.fuse < (bs.length : Int)
      · rw [if_pos ⟨h2, h3⟩]
        exact put_tears w S g bb bd s bs A c Pb hD hf hd hrb hrd hnb hnd hs h1 h2 h3
      · rw [if_neg (fun x => h3 x.2), if_neg h2]
        exact put_fuse w S g bb bd s bs A c Pb hD hf hd hrb hrd hnb hnd hs h1 h2 h3
set_option maxHeartbeats 1000000 in
set_option maxRecDepth 100000 in
/-- whether it is dead is asked once: what is to be done is done -/
theorem alive_put {w : World} {g : Nat} {a b : Value} {R : Value → World → Prop} (c3 : w.cell? ⟨g, 3, none⟩ = some (.bool false)) (hf : Calls Tryd.prog 36 #[a, b] w fun y w' => ∃ v, y = .returned v ∧ R v w') :
    Calls Tryd.prog 30 #[.pointer (some ⟨g, 0, none⟩), .func (.func 36) #[] #[a, b]] w fun y w' => ∃ v, y = .returned v ∧ R v w' := by
  have Hf := hide hf
  clear hf
  go_enter Tryd.func30, Tryd.ntmps30
  go_wp2_with fail
  refine Hf.out.mono ?_
  rintro y w1 ⟨v, rfl, hR⟩
  have HR := hide hR
  clear hR
  go_wp2
  go_ret
  exact ⟨v, rfl, HR.out⟩
set_option maxHeartbeats 1000000 in
set_option maxRecDepth 100000 in
theorem alive_cut {w : World} {g : Nat} {a b : Value} {R : Value → World → Prop} (c3 : w.cell? ⟨g, 3, none⟩ = some (.bool false)) (hf : Calls Tryd.prog 31 #[a, b] w fun y w' => ∃ v, y = .returned v ∧ R v w') :
    Calls Tryd.prog 30 #[.pointer (some ⟨g, 0, none⟩), .func (.func 31) #[] #[a, b]] w fun y w' => ∃ v, y = .returned v ∧ R v w' := by
  have Hf := hide hf
  clear hf
  go_enter Tryd.func30, Tryd.ntmps30
  go_wp2_with fail
  refine Hf.out.mono ?_
  rintro y w1 ⟨v, rfl, hR⟩
  have HR := hide hR
  clear hR
  go_wp2
  go_ret
  exact ⟨v, rfl, HR.out⟩
set_option maxHeartbeats 1000000 in
set_option maxRecDepth 100000 in
theorem not_alive {w : World} {g : Nat} {f : Value} (c3 : w.cell? ⟨g, 3, none⟩ = some (.bool true)) :
    Calls Tryd.prog 30 #[.pointer (some ⟨g, 0, none⟩), f] w fun y w' => y = .returned (.int .i64 9) ∧ w = w' := by
  go_enter Tryd.func30, Tryd.ntmps30
  go_wp2
  go_ret
  exact ⟨rfl, rfl⟩
theorem DkIn.cell3 {w : World} {S : Nat → Prop} {g : Nat} {s : St} (h : DkIn w S g s) : w.cell? ⟨g, 3, none⟩ = some (.bool s.dead) := by
  obtain ⟨v, hr, _⟩ := h; exact hr.cell 3
set_option maxHeartbeats 1000000 in
set_option maxRecDepth 100000 in
theorem put_any {w : World} {S : Nat → Prop} {g : Nat} {s : St} (h : DkIn w S g s) (hf : s.fit) (bs : List UInt8) (A : Option Addr) (c : Nat) (Pb : Nat → Prop) (hs : Sl w Pb A c bs) :
    Calls Tryd.prog 22 #[.pointer (some ⟨g, 0, none⟩), .slice A bs.length c] w fun y w' => Does w S g (put s bs) y w' := by
  obtain ⟨w1, hw⟩ : ∃ z, z = (w.alloc (.cells #[.pointer (some ⟨g, 0, none⟩)] tP)).alloc (.cells #[.slice A bs.length c] tB) := ⟨_, rfl⟩
  have hb : Below w.heap.size w w1 := by rw [hw]; exact ((Below.refl _ w).alloc (Nat.le_refl _) _).alloc (by simp) _
  have h1 := h.below hb
  have hrd : Row w1 w.heap.size tP [.pointer (some ⟨g, 0, none⟩)] := by rw [hw]; exact (Row.fresh w tP _).alloc _
  have hrb : Row w1 (w.heap.size + 1) tB [.slice A bs.length c] := by rw [hw]; exact Row.new _ tB (by simp) rfl
  have hs1 : Sl w1 (fun b => Pb b ∧ b < w.heap.size) A c bs := hs.bound.move fun b hb' _ => hb.block b hb'.2
  have hc := h1.cell3
  have hlt := h.lt
  have Hmain := hide (fun hd : s.dead = false => clo_any w1 S g (w.heap.size + 1) w.heap.size s bs A c _ h1 hf hd hrb hrd (fun x => by have := hlt _ x; omega) (fun x => by have := hlt _ x; omega) hs1)
  have Hd := hide (show s.dead = true → Does w S g (put s bs) (.returned (.int .i64 9)) w1 from fun hd => by
    unfold put
    rw [if_pos hd]
    exact ⟨rfl, S, h1, Oth.of_below S hb, fun k hk => .inl hk⟩)
  have cd := hrd.cell 0
  have cb := hrb.cell 0
  simp only [List.getElem?_cons_zero] at cd cb
  have HB := hide hb
  have HW := hide hw
  obtain ⟨N, hN⟩ : ∃ N, N = bs.length := ⟨_, rfl⟩
  have hN' := hN
  rw [← hN] at hw ⊢
  have HW := hide hw
  clear hw h1 hrd hrb hs1 hlt hb hs hN hN' h hf
  generalize hdd : s.dead = d at hc Hmain Hd
  have Hdd := hide hdd
  clear hdd
  cases d with
  | false =>
    go_enter Tryd.func22, Tryd.ntmps22
    go_wp2_with (first | rw [← HW.out] | fail)
    refine (alive_put (R := fun v w' => Does w S g (put s bs) (.returned v) w') hc ((Hmain.out trivial).mono fun y w' h => ⟨_, h.1, h.1 ▸ Does.over h HB.out⟩)).mono ?_
    rintro y w2 ⟨v, rfl, hR⟩
    have HR := hide hR
    clear hR
    go_wp2
    go_ret
    exact HR.out
  | true =>
    go_enter Tryd.func22, Tryd.ntmps22
    go_wp2_with (first | rw [← HW.out] | fail)
    refine (not_alive hc).mono ?_
    rintro y w2 ⟨rfl, rfl⟩
    go_wp2
    go_ret
    exact Hd.out trivial

/-! ### Cut -/
abbrev tI : TypeId := 3
set_option maxHeartbeats 1000000 in
set_option maxRecDepth 100000 in
theorem cut_low (w : World) (S : Nat → Prop) (g bb bd : Nat) (s : St) (n : Int) (hD : DkIn w S g s) (hrb : Row w bb tI [.int .i64 n]) (hrd : Row w bd tP [.pointer (some ⟨g, 0, none⟩)]) (hn : n < 0) :
    Calls Tryd.prog 31 #[.pointer (some ⟨bb, 0, none⟩), .pointer (some ⟨bd, 0, none⟩)] w fun y w' => Does w S g (s, 1) y w' := by
  have HD := hide hD
  have cb : w.cell? ⟨bb, 0, none⟩ = some (.int .i64 n) := hrb.cell 0
  have cd : w.cell? ⟨bd, 0, none⟩ = some (.pointer (some ⟨g, 0, none⟩)) := hrd.cell 0
  have hc : decide (n < 0) = true := decide_eq_true hn
  clear hD hrb hrd
  go_enter Tryd.func31, Tryd.ntmps31
  go_wp2
  go_quiet (fail)
  go_wp2
  go_ret
  exact ⟨rfl, S, HD.out, (Oth.refl S w).drewN nq, fun k hk => .inl hk⟩
set_option maxHeartbeats 1000000 in
set_option maxRecDepth 100000 in
theorem cut_high (w : World) (S : Nat → Prop) (g bb bd : Nat) (s : St) (n : Int) (hD : DkIn w S g s) (hrb : Row w bb tI [.int .i64 n]) (hrd : Row w bd tP [.pointer (some ⟨g, 0, none⟩)]) (hn : ¬ n < 0) (hn2 : (s.k.length : Int) < n) :
    Calls Tryd.prog 31 #[.pointer (some ⟨bb, 0, none⟩), .pointer (some ⟨bd, 0, none⟩)] w fun y w' => Does w S g (s, 1) y w' := by
  have HD := hide hD
  have HZ := hide (fun i : Nat => (size_any (show DkIn (w.drewN i) S g s from hD)).mono (R' := fun y w' => y = .returned (.int .i64 (s.k.length : Nat)) ∧ w' = w.drewN i) fun y w' h => ⟨h.1, h.2.symm⟩)
  have cb : w.cell? ⟨bb, 0, none⟩ = some (.int .i64 n) := hrb.cell 0
  have cd : w.cell? ⟨bd, 0, none⟩ = some (.pointer (some ⟨g, 0, none⟩)) := hrd.cell 0
  have hc : decide (n < 0) = false := decide_eq_false hn
  obtain ⟨N, hN⟩ : ∃ N, N = s.k.length := ⟨_, rfl⟩
  rw [← hN] at HZ hn2
  have hc2 : decide ((N : Int) < n) = true := decide_eq_true hn2
  clear hD hrb hrd hN
  go_enter Tryd.func31, Tryd.ntmps31
  go_wp2
  go_quiet (with_reducible exact Calls.quiet_of_same (HZ.out _))
  go_wp2
  go_ret
  exact ⟨rfl, S, HD.out, (Oth.refl S w).drewN nq, fun k hk => .inl hk⟩
set_option maxHeartbeats 1000000 in
set_option maxRecDepth 100000 in
theorem cut_yes (w : World) (S : Nat → Prop) (g bb bd : Nat) (s : St) (n : Nat) (hD : DkIn w S g s) (hd : s.dead = false) (hrb : Row w bb tI [.int .i64 (n : Int)]) (hrd : Row w bd tP [.pointer (some ⟨g, 0, none⟩)]) (hn : n ≤ s.k.length) :
    Calls Tryd.prog 31 #[.pointer (some ⟨bb, 0, none⟩), .pointer (some ⟨bd, 0, none⟩)] w fun y w' => Does w S g (⟨s.k.take n, s.room, s.fuse, false⟩, 0) y w' := by
  have HZ := hide (fun i : Nat => (size_any (show DkIn (w.drewN i) S g s from hD)).mono (R' := fun y w' => y = .returned (.int .i64 (s.k.length : Nat)) ∧ w' = w.drewN i) fun y w' h => ⟨h.1, h.2.symm⟩)
  have cb : w.cell? ⟨bb, 0, none⟩ = some (.int .i64 (n : Int)) := hrb.cell 0
  have cd : w.cell? ⟨bd, 0, none⟩ = some (.pointer (some ⟨g, 0, none⟩)) := hrd.cell 0
  obtain ⟨v, hr, ho, hg, hb⟩ := hD
  rw [hd] at hr
  obtain ⟨A, c, rfl, hlc, hcut⟩ := ho.cut hn
  have hc : decide ((n : Int) < 0) = false := decide_eq_false (by omega)
  obtain ⟨N, hN⟩ : ∃ N, N = s.k.length := ⟨_, rfl⟩
  rw [← hN] at HZ hn hr hlc
  have hnN : ¬ N < n := by omega
  have hc2 : decide (N < n) = false := decide_eq_false hnN
  have hc3 : decide ((N : Int) < (n : Int)) = false := decide_eq_false (by omega)
  have Hsl := hide (fun w => run_three w A N c n hn hlc)
  have k0 := hr.cell 0
  have f0 := hr.free 0
  simp only [List.getElem?_cons_zero] at k0
  have HR := hide hr
  have Hcut := hide hcut
  have Hg := hide hg
  have Hb := hide hb
  clear hr ho hg hb hcut hrb hrd hN hn hlc
  go_enter Tryd.func31, Tryd.ntmps31
  go_wp2
  go_quiet (with_reducible exact Calls.quiet_of_same (HZ.out _))
  obtain ⟨w1, hw⟩ : ∃ z, z = w.drewN nq := ⟨_, rfl⟩
  have cb1 : w1.cell? ⟨bb, 0, none⟩ = some (.int .i64 (n : Int)) := by rw [hw]; exact cb
  have cd1 : w1.cell? ⟨bd, 0, none⟩ = some (.pointer (some ⟨g, 0, none⟩)) := by rw [hw]; exact cd
  have k01 : w1.cell? ⟨g, 0, none⟩ = some (.slice A N c) := by rw [hw]; exact k0
  have f01 : w1.frozen? ⟨g, 0, none⟩ = false := by rw [hw]; exact f0
  have HR1 : Row w1 g tD [.slice A N c, .int .i64 (s.room : Int), .int .i64 s.fuse, .bool false] := by rw [hw]; exact HR.out
  have HC1 : OwnS w1 (fun b => S b ∧ b ≠ g) tU8 (.slice A n n) (s.k.take n) := by rw [hw]; exact Hcut.out
  have HO1 : Oth S w w1 := by rw [hw]; exact (Oth.refl S w).drewN nq
  rw [← hw]
  clear hw cb cd k0 f0 HR Hcut HZ
  have HR := hide HR1
  have HC := hide HC1
  have HO := hide HO1
  clear HR1 HC1 HO1
  go_wp2
  refine Rg.wp_region_ord (fun w' => w'.cell? ⟨bb, 0, none⟩ = some (.int .i64 (n : Int)) ∧ w'.cell? ⟨bd, 0, none⟩ = some (.pointer (some ⟨g, 0, none⟩)) ∧ w'.cell? ⟨g, 0, none⟩ = some (.slice A N c) ∧ True) [(0, true), (1, true), (2, true), (3, true), (4, true), (5, true), (6, true), (7, true), (8, true), (9, true), (10, false)] (by kernel_rfl) (by kernel_rfl) ?_
  simp only [Rg.pick, List.map_cons, List.map_nil, List.getD_cons_zero, List.getD_cons_succ]
  iterate 7 (refine Rg.ord_quiet (v := ?_) rfl (fun w' hS => ?_) ⟨cb1, cd1, k01, trivial⟩ ?_; rotate_left; (obtain ⟨s1, s2, s3, s4⟩ := hS; go_simp; with_reducible rfl); simp only [Act.put, List.setIfInBounds_toArray, List.set_cons_succ, List.set_cons_zero])
  refine Rg.ord_quiet (v := .slice A n n) rfl (fun w' hS => ?_) ⟨cb1, cd1, k01, trivial⟩ ?_
  · have hq := Hsl.out w'
    clear hS
    go_simp
  simp only [Act.put, List.setIfInBounds_toArray, List.set_cons_succ, List.set_cons_zero]
  iterate 2 (refine Rg.ord_quiet (v := ?_) rfl (fun w' hS => ?_) ⟨cb1, cd1, k01, trivial⟩ ?_; rotate_left; (obtain ⟨s1, s2, s3, s4⟩ := hS; go_simp; with_reducible rfl); simp only [Act.put, List.setIfInBounds_toArray, List.set_cons_succ, List.set_cons_zero])
  refine Rg.ord_loud rfl (fun K hK => ?_)
  go_simp
  have HR2 := hide (HR.out.put 0 (.slice A n n))
  have HC2 := hide (own_put (i := 0) (u := .slice A n n) HC.out)
  have HO2 := hide (HO.out.put (g := g) (i := 0) (.inl Hg.out) (.slice A n n))
  refine hK _ _ (fun hf => absurd (show Rg.sink _ 10 = true from by kernel_rfl) (by rw [hf]; decide)) ?_
  clear hK K cb1 cd1 k01 f01
  refine Rg.ord_nil ?_
  go_wp2
  go_ret
  refine ⟨rfl, S, ⟨_, HR2.out, HC2.out, Hg.out, fun k hk => Nat.lt_of_lt_of_le (Hb.out k hk) HO2.out.size⟩, HO2.out.drew, fun k hk => .inl hk⟩
theorem cclo_any (w : World) (S : Nat → Prop) (g bb bd : Nat) (s : St) (n : Int) (hD : DkIn w S g s) (hd : s.dead = false) (hrb : Row w bb tI [.int .i64 n]) (hrd : Row w bd tP [.pointer (some ⟨g, 0, none⟩)]) :
    Calls Tryd.prog 31 #[.pointer (some ⟨bb, 0, none⟩), .pointer (some ⟨bd, 0, none⟩)] w fun y w' => Does w S g (cut s n) y w' := by
  unfold cut
  rw [if_neg (by rw [hd]; decide)]
  by_cases h1 : n < 0
  · rw [if_pos (.inl h1)]
    exact cut_low w S g bb bd s n hD hrb hrd h1
  · by_cases h2 : (s.k.length : Int) < n
    · rw [if_pos (.inr h2)]
      exact cut_high w S g bb bd s n hD hrb hrd h1 h2
    · rw [if_neg (fun x => x.elim h1 h2)]
      obtain ⟨m, rfl⟩ : ∃ m : Nat, n = (m : Int) := ⟨n.toNat, by omega⟩
      rw [show ((m : Int)).toNat = m from by omega]
      exact cut_yes w S g bb bd s m hD hd hrb hrd (by omega)
set_option maxHeartbeats 1000000 in
set_option maxRecDepth 100000 in
theorem cut_any {w : World} {S : Nat → Prop} {g : Nat} {s : St} (h : DkIn w S g s) (n : Int) :
    Calls Tryd.prog 20 #[.pointer (some ⟨g, 0, none⟩), .int .i64 n] w fun y w' => Does w S g (cut s n) y w' := by
  obtain ⟨w1, hw⟩ : ∃ z, z = (w.alloc (.cells #[.pointer (some ⟨g, 0, none⟩)] tP)).alloc (.cells #[.int .i64 n] tI) := ⟨_, rfl⟩
  have hb : Below w.heap.size w w1 := by rw [hw]; exact ((Below.refl _ w).alloc (Nat.le_refl _) _).alloc (by simp) _
  have h1 := h.below hb
  have hrd : Row w1 w.heap.size tP [.pointer (some ⟨g, 0, none⟩)] := by rw [hw]; exact (Row.fresh w tP _).alloc _
  have hrb : Row w1 (w.heap.size + 1) tI [.int .i64 n] := by rw [hw]; exact Row.new _ tI (by simp) rfl
  have hc := h1.cell3
  have Hmain := hide (fun hd : s.dead = false => cclo_any w1 S g (w.heap.size + 1) w.heap.size s n h1 hd hrb hrd)
  have Hd := hide (show s.dead = true → Does w S g (cut s n) (.returned (.int .i64 9)) w1 from fun hd => by
    unfold cut
    rw [if_pos hd]
    exact ⟨rfl, S, h1, Oth.of_below S hb, fun k hk => .inl hk⟩)
  have cd := hrd.cell 0
  have cb := hrb.cell 0
  simp only [List.getElem?_cons_zero] at cd cb
  have HB := hide hb
  have HW := hide hw
  clear hw h1 hrd hrb hb h
  generalize hdd : s.dead = d at hc Hmain Hd
  clear hdd
  cases d with
  | false =>
    go_enter Tryd.func20, Tryd.ntmps20
    go_wp2_with (first | rw [← HW.out] | fail)
    refine (alive_cut (R := fun v w' => Does w S g (cut s n) (.returned v) w') hc ((Hmain.out trivial).mono fun y w' h => ⟨_, h.1, h.1 ▸ Does.over h HB.out⟩)).mono ?_
    rintro y w2 ⟨v, rfl, hR⟩
    have HR := hide hR
    clear hR
    go_wp2
    go_ret
    exact HR.out
  | true =>
    go_enter Tryd.func20, Tryd.ntmps20
    go_wp2_with (first | rw [← HW.out] | fail)
    refine (not_alive hc).mono ?_
    rintro y w2 ⟨rfl, rfl⟩
    go_wp2
    go_ret
    exact Hd.out trivial
end Go.Proofs.YtcmjdepjckhpdabDoor.Dk
namespace Go.Proofs.YtcmjdepjckhpdabDoor.Wr
open Go Go.RowKit Kt

theorem same_of (l r : List UInt8) (hl : l.length = r.length) (h : ∀ j, j < l.length → l.getD j 0 = r.getD j 0) : l = r := by
  apply List.ext_getElem hl
  intro i h1 h2
  have := h i h1
  simpa [List.getElem?_eq_getElem h1, List.getElem?_eq_getElem h2] using this

set_option maxHeartbeats 1000000 in
set_option maxRecDepth 100000 in
theorem bytes_any (l r : List UInt8) (A A' : Option Addr) (c c' : Nat) (Pb Pb' : Nat → Prop) (w : World) (hs : Sl w Pb A c l) (hs' : Sl w Pb' A' c' r) (hl : l.length ≤ 9223372036854775807) :
    Calls Tryd.prog 9 #[.slice A l.length c, .slice A' r.length c'] w fun y w' => y = .returned (.bool (decide (l = r))) ∧ Below w.heap.size w w' := by
  by_cases hlen : l.length = r.length
  · have hlr : r.length ≤ 9223372036854775807 := by omega
    have Hs := hide hs.bound
    have Hs' := hide hs'.bound
    clear hs hs'
    have hb0 : ((l.length : Int) != (r.length : Int)) = false := by rw [bne_eq_false_iff_eq]; omega
    have Hlen := hide hlen
    obtain ⟨N, hN⟩ : ∃ N, N = l.length := ⟨_, rfl⟩
    obtain ⟨N', hN'⟩ : ∃ N', N' = r.length := ⟨_, rfl⟩
    rw [← hN, ← hN'] at hb0 ⊢
    have HN := hide hN
    have HN' := hide hN'
    have hNl : N ≤ 9223372036854775807 := by omega
    have hNN : N = N' := by omega
    have HNN := hide hNN
    clear hN hN' hl hlr hlen hNN
    go_enter Tryd.func9, Tryd.ntmps9
    go_wp2
    go_loopw [5] (fun i wr => ∃ k : Nat, k ≤ N ∧ i = .int .i64 k ∧ (∀ j, j < k → l.getD j 0 = r.getD j 0) ∧ Below w.heap.size w wr) (fun i _ => N - (intOf i).toNat)
    case atStart => exact ⟨0, Nat.zero_le _, rfl, fun j h => absurd h (Nat.not_lt_zero _), Below.refl _ _⟩
    case round =>
      obtain ⟨k, hk, rfl, hall, hb⟩ := hrel
      have Hall := hide hall
      have Hb := hide hb
      clear hall hb
      by_cases hlt : k < N
      · obtain ⟨b, o, rfl, hp, hc⟩ := Hs.out.2 (by have := HN.out; omega)
        obtain ⟨b', o', rfl, hp', hc'⟩ := Hs'.out.2 (by have := HN'.out; have := HNN.out; omega)
        have ck : wr.cell? ⟨b, o + k, none⟩ = some (.int .u8 ((l.getD k 0).toNat : Int)) := (World.cell?_of_block (a := ⟨b, o + k, none⟩) (Hb.out.block b hp.2)).trans (hc k (by have := HN.out; omega))
        have ck' : wr.cell? ⟨b', o' + k, none⟩ = some (.int .u8 ((r.getD k 0).toNat : Int)) := (World.cell?_of_block (a := ⟨b', o' + k, none⟩) (Hb.out.block b' hp'.2)).trans (hc' k (by have := HN'.out; have := HNN.out; omega))
        clear hc hc' hp hp'
        have hlt' : k < N' := by have := HNN.out; omega
        by_cases hx : l.getD k 0 = r.getD k 0
        · have Hx := hide hx
          rw [hx] at ck
          clear hx
          generalize (r.getD k 0).toNat = x at *
          go_wp2
          go_quiet (fail)
          go_wp2
          refine ⟨⟨k + 1, by omega, by go_num, fun j hj => ?_, below_drewN Hb.out _⟩, by simp [intOf]; omega⟩
          rcases Nat.lt_or_ge j k with hj' | hj'
          · exact Hall.out j hj'
          · obtain rfl : j = k := by omega
            exact Hx.out
        · have hxn : (((l.getD k 0).toNat : Int) != ((r.getD k 0).toNat : Int)) = true := by
            rw [bne_iff_ne]
            intro he
            exact hx (UInt8.toNat_inj.1 (by omega))
          have Hx := hide hx
          clear hx
          generalize (r.getD k 0).toNat = x at *
          generalize (l.getD k 0).toNat = y at *
          go_wp2
          go_quiet (fail)
          go_wp2
          go_ret
          refine ⟨?_, below_drewN Hb.out _⟩
          have hd : decide (l = r) = false := decide_eq_false fun h => Hx.out (by rw [h])
          rw [hd]; rfl
      · obtain rfl : k = N := by omega
        go_wp2
        go_ret
        refine ⟨?_, Hb.out⟩
        have hd : decide (l = r) = true := decide_eq_true (same_of l r Hlen.out fun j hj => Hall.out j (by have := HN.out; omega))
        rw [hd]; rfl
  · have hb0 : ((l.length : Int) != (r.length : Int)) = true := by rw [bne_iff_ne]; omega
    have Hd := hide (show decide (l = r) = false from decide_eq_false fun h => hlen (by rw [h]))
    clear hs hs' hlen
    go_enter Tryd.func9, Tryd.ntmps9
    go_wp2
    go_ret
    exact ⟨by rw [Hd.out]; rfl, Below.refl _ _⟩
end Go.Proofs.YtcmjdepjckhpdabDoor.Wr
namespace Go.Proofs.YtcmjdepjckhpdabDoor.Dk
open Go Go.RowKit Go.WideShapes Go.ChangeShapes Go.ChangeAt Go.ChangeMaps Go.Deep Kt Kg Wr Lw

/-- an operation's cells -/
def opC (e : Op) (v : Value) : List Value := [.int .u8 (e.kind : Int), v, .int .i64 e.n]
/-- '.slice A n c' reads as these operations -/
def Ops (w : World) (A : Option Addr) (c : Nat) (L : List Op) : Prop :=
  L.length ≤ c ∧ (0 < L.length → ∃ b o, A = some ⟨b, o, none⟩ ∧ b < w.heap.size ∧ ∀ j e, L[j]? = some e →
    ∃ A' c', w.rangeAt b (o + 3 * j) (opC e (.slice A' e.b.length c')) ∧ Sl w (fun b => b < w.heap.size) A' c' e.b)
theorem Ops.keep {w w' : World} {A : Option Addr} {c : Nat} {L : List Op} (h : Ops w A c L) (hb : Below w.heap.size w w') : Ops w' A c L :=
  ⟨h.1, fun hn => by
    obtain ⟨b, o, rfl, hlt, he⟩ := h.2 hn
    refine ⟨b, o, rfl, Nat.lt_of_lt_of_le hlt hb.size, fun j e hj => ?_⟩
    obtain ⟨A', c', hr, hv⟩ := he j e hj
    exact ⟨A', c', fun i v hi => (World.cell?_of_block (a := ⟨b, o + 3 * j + i, none⟩) (hb.block b hlt)).trans (hr i v hi), (hv.move fun b hlt _ => hb.block b hlt).imp fun b _ hlt => Nat.lt_of_lt_of_le hlt hb.size⟩⟩
theorem Ops.nil (w : World) (A : Option Addr) (c : Nat) : Ops w A c [] := ⟨Nat.zero_le _, fun h => by simp at h⟩
theorem Ops.at {w w' : World} {A : Option Addr} {c : Nat} {L : List Op} (h : Ops w A c L) (hb : Below w.heap.size w w') {k : Nat} (hk : k < L.length) :
    ∃ b o e A' c', A = some ⟨b, o, none⟩ ∧ L[k]? = some e ∧ (w'.cell? ⟨b, o + k * 3, none⟩ = some (.int .u8 (e.kind : Int)) ∧ w'.cell? ⟨b, o + k * 3 + 1, none⟩ = some (.slice A' e.b.length c') ∧ w'.cell? ⟨b, o + k * 3 + 2, none⟩ = some (.int .i64 e.n)) ∧ Sl w' (fun b => b < w.heap.size) A' c' e.b := by
  obtain ⟨b, o, rfl, hlt, he⟩ := h.2 (by omega)
  obtain ⟨A', c', h1, h2⟩ := he k _ (List.getElem?_eq_getElem hk)
  rw [Nat.mul_comm] at h1
  have h3 : ∀ i v, (opC L[k] (.slice A' (L[k]).b.length c'))[i]? = some v → w'.cell? ⟨b, o + k * 3 + i, none⟩ = some v := fun i v hi => (World.cell?_of_block (a := ⟨b, o + k * 3 + i, none⟩) (hb.block b hlt)).trans (h1 i v hi)
  exact ⟨b, o, _, A', c', rfl, List.getElem?_eq_getElem hk, ⟨h3 0 _ rfl, h3 1 _ rfl, h3 2 _ rfl⟩, h2.move fun b hlt _ => hb.block b hlt⟩
abbrev opV (e : Op) (A' : Option Addr) (n c' : Nat) : Value := .agg #[.int .u8 (e.kind : Int), .slice A' n c', .int .i64 e.n]
end Go.Proofs.YtcmjdepjckhpdabDoor.Dk
namespace Go.Proofs.YtcmjdepjckhpdabDoor.Dk
open Go Go.RowKit Kt Kg Wr Lw

theorem wake_put1 : put (new 5) [97, 98, 99] = (⟨[97, 98, 99], 5, -1, false⟩, 0) := rfl
theorem wake_put2 : put (fused ⟨[97, 98, 99], 5, -1, false⟩ 1) [100, 101] = (⟨[97, 98, 99, 100], 5, -1, true⟩, 9) := rfl
theorem lit_sl (w : World) (l : List UInt8) (cs : Array Value) (fr : Nat × Nat) (hc : cs = (u8s l).toArray) : Sl (w.alloc (.cells cs tU8 fr)) (fun b => b = w.heap.size) (some ⟨w.heap.size, 0, none⟩) l.length l := by
  subst hc
  refine ⟨Nat.le_refl _, fun _ => ⟨w.heap.size, 0, rfl, rfl, fun j hj => ?_⟩⟩
  rw [Nat.zero_add, cell_of_row (w.alloc (.cells (u8s l).toArray tU8 fr)) w.heap.size j (u8s l).toArray tU8 fr (heap_alloc_new w _)]
  have := u8s_get l j hj
  simpa using this
theorem oth_low {S : Nat → Prop} {w0 a b : World} (h : Oth S a b) (hb : Below w0.heap.size w0 a) (hS : ∀ k, S k → w0.heap.size ≤ k) : Below w0.heap.size w0 b :=
  h.below hb hb.size fun k hk hs => by have := hS k hs; omega
end Go.Proofs.YtcmjdepjckhpdabDoor.Dk
namespace Go.Proofs.YtcmjdepjckhpdabDoor.Dk
open Go Go.RowKit Kt Kg Wr Lw

theorem DkIn.drewN {w : World} {S : Nat → Prop} {g : Nat} {s : St} (h : DkIn w S g s) (n : Nat) : DkIn (w.drewN n) S g s := h
theorem ap {S S' T : Nat → Prop} {n : Nat} (hS' : ∀ k, S' k → S k ∨ n ≤ k) (hap : ∀ k, S k → ¬ T k) (hT : ∀ k, T k → k < n) : ∀ k, S' k → ¬ T k :=
  fun k hk ht => (hS' k hk).elim (fun h => hap k h ht) fun h => by have := hT k ht; omega
theorem lo {S S' : Nat → Prop} {m n : Nat} (hS' : ∀ k, S' k → S k ∨ n ≤ k) (hlow : ∀ k, S k → m ≤ k) (hb : m ≤ n) : ∀ k, S' k → m ≤ k :=
  fun k hk => (hS' k hk).elim (hlow k) fun h => Nat.le_trans hb h
theorem sl_front {w : World} {P : Nat → Prop} {A : Option Addr} {c : Nat} {l : List UInt8} (h : Sl w P A c l) (k : Nat) : Sl w P A c (l.take k) := ⟨by have := h.1; rw [List.length_take]; omega, fun h0 => by
  have hlt : (l.take k).length ≤ l.length := by rw [List.length_take]; omega
  obtain ⟨b, o, h1, h2, h3⟩ := h.2 (by omega)
  refine ⟨b, o, h1, h2, fun j hj => ?_⟩
  rw [h3 j (by omega)]
  have hjf : j < k := by rw [List.length_take] at hj; omega
  simp [List.getD_eq_getElem?_getD, hjf]⟩
theorem run_back (w : World) (A : Option Addr) (n c k : Nat) (hk : k ≤ n) (_hn : n ≤ c) :
    (Instr.slice 38 (.slice A n c) (some (.int .i64 (k : Int))) none none).run Tryd.prog w = .ok (.slice (if c = k then A else A.map (·.add k)) (n - k) (c - k)) w := by
  have hu := run_underlying Tryd.underlying38
  cases A with
  | none =>
    go_simp
  | some ad =>
    go_simp
theorem bytes_two (l r : List UInt8) (A A' : Option Addr) (n n' c c' : Nat) (Pb Pb' : Nat → Prop) (w : World) (hs : Sl w Pb A c l) (hs' : Sl w Pb' A' c' r) (hn : n = l.length) (hn' : n' = r.length) (hl : l.length ≤ 9223372036854775807) :
    Calls Tryd.prog 9 #[.slice A n c, .slice A' n' c'] w fun y w' => y = .returned (.bool (decide (l = r))) ∧ Below w.heap.size w w' := by
  subst hn hn'
  exact bytes_any l r A A' c c' Pb Pb' w hs hs' hl

/-- what becomes of a disk behind a start, with a fuse -/
theorem tears_is (s : St) (b : List UInt8) (f : Nat) (hs : s.k.length ≤ s.room) : ∃ q e s', put (fused (begun s) f) b = (s', e) ∧ s'.k = s.k ++ b.take q ∧ q ≤ b.length ∧ s'.room = s.room ∧
    ((e = 8 ∧ q = 0 ∧ s'.room - s'.k.length < b.length) ∨ (e = 9 ∧ s'.dead = true ∧ q = f ∧ q < b.length) ∨ (e = 0 ∧ q = b.length ∧ s'.dead = false ∧ b.length ≤ f)) := by
  rw [tears]
  split
  · exact ⟨0, 8, _, rfl, by simp, Nat.zero_le _, rfl, .inl ⟨rfl, rfl, by simp only []; omega⟩⟩
  · split
    · exact ⟨f, 9, _, rfl, rfl, by omega, rfl, .inr (.inl ⟨rfl, rfl, rfl, by omega⟩)⟩
    · exact ⟨b.length, 0, _, rfl, by simp, Nat.le_refl _, rfl, .inr (.inr ⟨rfl, rfl, rfl, by omega⟩)⟩
end Go.Proofs.YtcmjdepjckhpdabDoor.Dk
namespace Go.Proofs.YtcmjdepjckhpdabDoor.Dk
open Go Go.RowKit Kt Kg Wr Lw

abbrev tR : TypeId := 53
def rtC (v : Value) (room : Nat) (has : Bool) (fuse : Int) (dead : Bool) : List Value := [v, .int .i64 (room : Int), .bool has, .int .i64 fuse, .bool dead]
/-- the reference's disk in block g; what it is made of are blocks of S -/
def RtIn (w : World) (S : Nat → Prop) (g : Nat) (r : Rt) : Prop :=
  ∃ v, Row w g tR (rtC v r.room r.has r.fuse r.dead) ∧ OwnS w (fun b => S b ∧ b ≠ g) tU8 v r.k ∧ S g ∧ ∀ k, S k → k < w.heap.size
section
variable {w w' : World} {S T : Nat → Prop} {g : Nat} {s : Rt}
theorem RtIn.lt (h : RtIn w S g s) : ∀ k, S k → k < w.heap.size := by obtain ⟨_, _, _, _, h4⟩ := h; exact h4
theorem RtIn.move (h : RtIn w S g s) (hk : ∀ b, S b → w'.heap[b]? = w.heap[b]?) (hsz : w.heap.size ≤ w'.heap.size) : RtIn w' S g s := by
  obtain ⟨v, h1, h2, h3, h4⟩ := h
  exact ⟨v, (hk g h3).trans h1, h2.move fun b hb _ => hk b hb.1, h3, fun k hk => Nat.lt_of_lt_of_le (h4 k hk) hsz⟩
theorem RtIn.below (h : RtIn w S g s) (hb : Below w.heap.size w w') : RtIn w' S g s := h.move (fun b hS => hb.block b (h.lt b hS)) hb.size
theorem RtIn.oth (h : RtIn w S g s) (ho : Oth T w w') (hd : ∀ k, S k → ¬ T k) : RtIn w' S g s := h.move (fun b hS => ho.block b (h.lt b hS) (hd b hS)) ho.size
end
abbrev RDoes (w : World) (S : Nat → Prop) (g : Nat) (r : Rt × Nat) (y : Ending) (w' : World) : Prop :=
  y = .returned (.int .i64 (r.2 : Int)) ∧ ∃ S', RtIn w' S' g r.1 ∧ Oth S w w' ∧ ∀ k, S' k → S k ∨ w.heap.size ≤ k
theorem RDoes.over {w W : World} {S : Nat → Prop} {g : Nat} {r : Rt × Nat} {y : Ending} {w' : World} (h : RDoes W S g r y w') (hb : Below w.heap.size w W) : RDoes w S g r y w' := by
  obtain ⟨h1, S', h2, h3, h4⟩ := h
  exact ⟨h1, S', h2, (Oth.of_below S hb).trans h3 fun _ _ x => x, fun k hk => (h4 k hk).imp id fun x => Nat.le_trans hb.size x⟩
/-- a new slice is put in its place -/
theorem rt_new {w w' : World} {S : Nat → Prop} {g : Nat} {v : Value} {l : List UInt8} {room : Nat} {has : Bool} {fuse : Int} {dead : Bool} (hg : S g) (hb : ∀ k, S k → k < w.heap.size) (hsz : w.heap.size ≤ w'.heap.size)
    (hr : Row w' g tR (rtC v room has fuse dead)) (ho : Own w' w.heap.size tU8 v l) : ∃ S', RtIn w' S' g ⟨l, room, has, fuse, dead⟩ ∧ ∀ k, S' k → S k ∨ w.heap.size ≤ k := by
  refine ⟨fun k => (S k ∨ w.heap.size ≤ k) ∧ k < w'.heap.size, ⟨v, hr, (OwnS.of ho).imp fun b hlt h => ⟨⟨.inr h.1, hlt⟩, ?_⟩, ⟨.inl hg, ?_⟩, fun k hk => hk.2⟩, fun k hk => hk.1⟩
  · have := hb g hg; have := h.1; omega
  · have := hb g hg; omega
theorem take_snoc (b : List UInt8) (i : Nat) (h : i < b.length) : b.take (i + 1) = b.take i ++ [b.getD i 0] := by
  rw [List.take_add_one]; simp [List.getElem?_eq_getElem h]
theorem rput_dead {s : Rt} {b : List UInt8} (h : s.dead = true) : rput s b = (s, 9) := if_pos h
theorem rput_full {s : Rt} {b : List UInt8} (h : ¬ s.dead = true) (h2 : s.room < s.k.length + b.length) : rput s b = (s, 8) := by unfold rput; rw [if_neg h, if_pos h2]
theorem rput_tear {s : Rt} {b : List UInt8} (h : ¬ s.dead = true) (h2 : ¬ s.room < s.k.length + b.length) (h3 : s.has = true) (h4 : s.fuse < (b.length : Int)) : rput s b = (⟨s.k ++ b.take s.fuse.toNat, s.room, false, 0, true⟩, 9) := by
  unfold rput; rw [if_neg h, if_neg h2, if_pos ⟨h3, h4⟩]
theorem rput_has {s : Rt} {b : List UInt8} (h : ¬ s.dead = true) (h2 : ¬ s.room < s.k.length + b.length) (h3 : s.has = true) (h4 : ¬ s.fuse < (b.length : Int)) : rput s b = (⟨s.k ++ b, s.room, true, s.fuse - (b.length : Int), false⟩, 0) := by
  unfold rput; rw [if_neg h, if_neg h2, if_neg (fun x => h4 x.2), if_pos h3, h3]
theorem rput_not {s : Rt} {b : List UInt8} (h : ¬ s.dead = true) (h2 : ¬ s.room < s.k.length + b.length) (h3 : s.has = false) : rput s b = (⟨s.k ++ b, s.room, false, s.fuse, false⟩, 0) := by
  unfold rput; rw [if_neg h, if_neg h2, if_neg (fun x => by rw [h3] at x; exact Bool.noConfusion x.1), if_neg (by rw [h3]; decide), h3]
end Go.Proofs.YtcmjdepjckhpdabDoor.Dk
namespace Go.Proofs.YtcmjdepjckhpdabDoor.Kt
open Go Go.RowKit Lw

/-- a list of texts in a row of the call's own (E: the number of the type string) -/
def OwT (w : World) (B : Nat) (E : TypeId) (v : Value) (l : List (List UInt8)) : Prop := w.ownsRow B E 1 v l.length (texts l)
theorem texts_append (l r : List (List UInt8)) : texts (l ++ r) = texts l ++ texts r := by simp [texts]
theorem texts_one (l : List (List UInt8)) : ∀ v ∈ texts l, v.oneCell' = true := by
  intro v hv; simp only [texts, List.mem_map] at hv; obtain ⟨_, _, rfl⟩ := hv; rfl
section
variable {w w' : World} {B : Nat} {E : TypeId} {v : Value} {l : List (List UInt8)}
theorem OwT.nil (w : World) (B : Nat) (E : TypeId) : OwT w B E (.slice none 0 0) [] := World.ownsRow_nil w B E 1
theorem OwT.lit (w : World) (B : Nat) (E : TypeId) (l : List (List UInt8)) (c : Array Value) (hc : c = (texts l).toArray) (hB : B ≤ w.heap.size) (hl : l.length ≤ maxLen) :
    OwT (w.alloc (.cells c E)) B E (.slice (some ⟨w.heap.size, 0, none⟩) l.length l.length) l := by
  subst hc
  have := World.ownsRow_lit (e := E) (size := 1) (base := B) w (texts l).toArray l.length hB hl (by simp [texts_len])
  simpa [OwT] using this
theorem OwT.alloc (h : OwT w B E v l) (o : Obj) : OwT (w.alloc o) B E v l := World.ownsRow.alloc h o
theorem OwT.drew (h : OwT w B E v l) : OwT w.drew B E v l := h
theorem OwT.drewN (h : OwT w B E v l) (n : Nat) : OwT (w.drewN n) B E v l := h
theorem OwT.below (h : OwT w B E v l) {B' : Nat} (hb : Below B' w w') (hv : ∀ g, v.ownBlock = some g → g < B') : OwT w' B E v l := by
  refine ⟨h.1, ?_⟩
  rcases h.2 with ⟨h1, h2⟩ | ⟨g, cap, cur, hv', h1, h2, h3⟩
  · exact .inl ⟨h1, h2⟩
  · exact .inr ⟨g, cap, cur, hv', h1, (hb.block g (hv g (by rw [hv']; rfl))).trans h2, h3⟩
theorem OwT.kept (h : OwT w B E v l) (hb : Below w.heap.size w w') : OwT w' B E v l := h.below hb fun g hg => (World.ownsRow.lt h g hg).2
theorem OwT.vs (h : OwT w B E v l) : ∃ A c, v = .slice A l.length c ∧ Vs w (fun b => B ≤ b ∧ v.ownBlock = some b) A c (texts l) := by
  rcases h.2 with ⟨rfl, h0⟩ | ⟨g, cap, cur, rfl, hB, hg, hnc, hcm, hs, ht⟩
  · have e : l = [] := List.eq_nil_of_length_eq_zero h0
    subst e
    exact ⟨none, 0, rfl, Nat.le_refl _, fun h => by simp [texts] at h⟩
  · refine ⟨_, cap, rfl, by rw [texts_len]; exact hnc, fun _ => ⟨g, 0, rfl, ⟨hB, rfl⟩, fun j v hj => ?_⟩⟩
    have hlt : j < l.length := by have := (List.getElem?_eq_some_iff.1 hj).1; rwa [texts_len] at this
    have := World.ownsRow.cellAt (cap := cap) h j (by omega)
    rw [Nat.zero_add, this, hj]
end

theorem run_append_nothingT {P : Program} {w : World} {t ty e : TypeId} {i : TypeInfo} (ht : P.underlying t = some (.slice e)) (hi : P.info? e = some i) {B size : Nat}
    {v : Value} {n : Nat} {xs : List Value} (hown : w.ownsRow B e size v n xs) (c : Nat) : (Builtin.append_ #[t, t] ty #[v, .slice none 0 c]).run P w = .ok v w := by
  rcases hown.2 with ⟨rfl, rfl⟩ | ⟨g, cap, cur, rfl, _, _, hnc, _⟩
  · simp [Builtin.append_, run_underlying ht, sizeOf, typeInfo, hi, Builtin.lenOf, Builtin.firstCells]
  · simp [Builtin.append_, run_underlying ht, sizeOf, typeInfo, hi, Builtin.lenOf, Builtin.firstCells, hnc, storeCells]

/-- append(s, texts..) onto a row of texts of the call's own -/
theorem wp_catT {P : Program} {o : Oper} {a : Act} {K : Act → World → Prop} {Q : Exit → Act → World → Prop} {w : World} {E : TypeId}
    (s x : Operand) (t : TypeId) (ho : o.op = .call { callee := .builtin .append, args := #[s, x], argTypes := #[t, t] })
    (ht : P.underlying t = some (.slice E)) (hi : (P.info? E).map (fun i => (i.zero, i.size, i.bytes)) = some (some (.string ⟨#[]⟩), 1, 16))
    (B : Nat) (w0 : World) (v : Value) (l r : List (List UInt8)) (Pb : Nat → Prop) (A : Option Addr) (c : Nat) (hs : a.eval s = v) (hx : a.eval x = .slice A r.length c)
    (hown : OwT w B E v l) (hsl : Vs w Pb A c (texts r)) (hlen : l.length + r.length ≤ 4398046511104) (hb : Below B w0 w) (hbase : B ≤ w.heap.size)
    (h : ∀ v' w', OwT w' B E v' (l ++ r) → Below B w0 w' → w.grownBy w' v.ownBlock → K (a.put o.dst v') w') : o.wp P a w K Q := by
  obtain ⟨i0, hi0, hz0, hz1, hz2⟩ := info_parts hi
  cases A with
  | none =>
    have h0 : r = [] := by
      cases r with
      | nil => rfl
      | cons b r => obtain ⟨_, _, he, _⟩ := hsl.2 (by simp [texts]); cases he
    subst h0
    have hrun := run_append_nothingT (P := P) (ty := o.type) ht hi0 hown c
    simp only [List.length_nil] at hx
    unfold Oper.wp execOp
    simp only [ho, resolve, invoke, builtin, Sem.run_bind, Sem.run_pure, Result.andThen_ok, List.map_toArray, List.map_cons, List.map_nil, hs, hx, hrun]
    exact h v w (by simpa using hown) hb (World.grownBy.refl _ _)
  | some ad =>
    refine wp_append_own _ s x t ho B E i0 (.string ⟨#[]⟩) 1 16 ht hi0 hz0 hz1 hz2 rfl (by omega) v l.length (texts l) hs hown ad r.length c (texts r) hx (by simp [texts_len])
      (fun j u hu => ?_) (texts_one r) (by unfold maxLen; omega) (by omega) hbase (fun v' w' h1 h2 _ => ?_)
    · have hj : j < r.length := by have := (List.getElem?_eq_some_iff.1 hu).1; rwa [texts_len] at this
      obtain ⟨b, k, he, _, hc⟩ := hsl.2 (by rw [texts_len]; omega)
      injection he with he
      subst he
      rw [Addr.add_mid]
      exact hc j u hu
    · refine h v' w' ?_ (hb.grown h2 hbase fun k hk => (World.ownsRow.lt hown k hk).1) h2
      unfold OwT
      rw [List.length_append, texts_append]
      exact h1
theorem wpList_catT {P : Program} {ops : Array Oper} {rest : List Oper} {o : Oper} {a : Act} {Q : Exit → Act → World → Prop} {w : World} {E : TypeId}
    (hgd : o.guard = none) (s x : Operand) (t : TypeId) (ho : o.op = .call { callee := .builtin .append, args := #[s, x], argTypes := #[t, t] })
    (ht : P.underlying t = some (.slice E)) (hi : (P.info? E).map (fun i => (i.zero, i.size, i.bytes)) = some (some (.string ⟨#[]⟩), 1, 16))
    (B : Nat) (w0 : World) (v : Value) (l r : List (List UInt8)) (Pb : Nat → Prop) (A : Option Addr) (c : Nat) (hs : a.eval s = v) (hx : a.eval x = .slice A r.length c)
    (hown : OwT w B E v l) (hsl : Vs w Pb A c (texts r)) (hlen : l.length + r.length ≤ 4398046511104) (hb : Below B w0 w) (hbase : B ≤ w.heap.size)
    (h : ∀ v' w', OwT w' B E v' (l ++ r) → Below B w0 w' → w.grownBy w' v.ownBlock → wpList P ops Q rest (a.put o.dst v') w') : wpList P ops Q (o :: rest) a w :=
  wpList_plain hgd fun _ hK => wp_catT s x t ho ht hi B w0 v l r Pb A c hs hx hown hsl hlen hb hbase fun v' w' h1 h2 h3 => hK _ _ (h v' w' h1 h2 h3)
/-- the same where the operation's guard says yes -/
theorem wpList_catTg {P : Program} {ops : Array Oper} {rest : List Oper} {o : Oper} {a : Act} {Q : Exit → Act → World → Prop} {w : World} {E : TypeId}
    (hgd : Region.wanted o (yielded ops a.tmps) = true) (s x : Operand) (t : TypeId) (ho : o.op = .call { callee := .builtin .append, args := #[s, x], argTypes := #[t, t] })
    (ht : P.underlying t = some (.slice E)) (hi : (P.info? E).map (fun i => (i.zero, i.size, i.bytes)) = some (some (.string ⟨#[]⟩), 1, 16))
    (B : Nat) (w0 : World) (v : Value) (l r : List (List UInt8)) (Pb : Nat → Prop) (A : Option Addr) (c : Nat) (hs : a.eval s = v) (hx : a.eval x = .slice A r.length c)
    (hown : OwT w B E v l) (hsl : Vs w Pb A c (texts r)) (hlen : l.length + r.length ≤ 4398046511104) (hb : Below B w0 w) (hbase : B ≤ w.heap.size)
    (h : ∀ v' w', OwT w' B E v' (l ++ r) → Below B w0 w' → w.grownBy w' v.ownBlock → wpList P ops Q rest (a.put o.dst v') w') : wpList P ops Q (o :: rest) a w :=
  wpList_step fun K hK => by
    rw [if_pos hgd]
    exact wp_catT s x t ho ht hi B w0 v l r Pb A c hs hx hown hsl hlen hb hbase fun v' w' h1 h2 h3 => hK _ _ (h v' w' h1 h2 h3)
theorem Vs.one (w : World) (E : TypeId) (y : List UInt8) : Vs (w.alloc (.cells #[.string ⟨y.toArray⟩] E)) (fun _ => True) (some ⟨w.heap.size, 0, none⟩) 1 (texts [y]) :=
  ⟨by simp [texts], fun _ => ⟨w.heap.size, 0, rfl, trivial, fun j v hj => by
    rw [Nat.zero_add, (Row.fresh w _ _).cell]
    exact hj⟩⟩
end Go.Proofs.YtcmjdepjckhpdabDoor.Kt
