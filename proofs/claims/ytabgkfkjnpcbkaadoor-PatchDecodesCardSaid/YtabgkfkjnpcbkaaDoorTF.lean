/-
  The reference of trees: is a tree right?
-/
import Derived.BigQuiet
import Derived.Test.YtabgkfkjnpcbkaaDoorQWS
namespace Go.Proofs.YtabgkfkjnpcbkaaDoor.Tr
open Go Go.RowKit Kt Lw Li Lx Df

theorem agr {w w' : World} {b j : Nat} {v : Value} (h : w.cell? ⟨b, j, none⟩ = some v) (hb : Below w.heap.size w w') : w'.cell? ⟨b, j, none⟩ = some v :=
  (World.cell?_of_block (a := ⟨b, j, none⟩) (hb.block b (World.block_lt_of_cell? w ⟨b, j, none⟩ h))).trans h
/-- the path ahead of file k -/
def ahead (t : List Fl) (k : Nat) : Option Bs := if k = 0 then none else (t[k - 1]?).map (·.path)
theorem go_step {t : List Fl} {k : Nat} {f : Fl} (h : t[k]? = some f) (hd : t.drop k = f :: t.drop (k + 1)) : go (ahead t k) (t.drop k) = (can f.path && decide (f.text.length ≤ 65536) && above (ahead t k) f.path && go (ahead t (k + 1)) (t.drop (k + 1))) := by
  rw [hd, go]
  have e : ahead t (k + 1) = some f.path := by unfold ahead; rw [if_neg (by omega), Nat.add_sub_cancel, h]; rfl
  rw [e]
set_option maxRecDepth 100000 in
set_option maxHeartbeats 4000000 in
theorem rright_any (t : List Fl) (A : Option Addr) (c : Nat) (w : World) (hs : Fls w A c t) (hn : t.length ≤ 100000) (hm : ∀ f ∈ t, f.path.length ≤ 9223372036854775807) :
    Calls Tryd.prog 23 #[.slice A t.length c] w fun y w' => y = .returned (.bool (right t)) ∧ Below w.heap.size w w' := by
  have Hs := hide hs
  have Hm := hide hm
  obtain ⟨N, hN⟩ : ∃ N, N = t.length := ⟨_, rfl⟩
  rw [← hN] at hn ⊢
  have HN := hide hN
  have HR0 := hide (show right t = (go none t && decide ((N : Int) ≤ 1000)) by rw [hN]; unfold right; congr 1; rw [decide_eq_decide]; omega)
  clear hs hm hN
  go_enter Tryd.func23, Tryd.ntmps23
  go_wp2
  go_loopw [3] (fun i wr => ∃ k : Nat, k ≤ N ∧ i = .int .i64 k ∧ Hid (go none t = go (ahead t k) (t.drop k) ∧ (0 < k → ∃ g, t[k - 1]? = some g ∧ g.path.length ≤ 200)) ∧ Below w.heap.size w wr) (fun i _ => N - (intOf i).toNat)
  case atStart => exact ⟨0, Nat.zero_le _, rfl, by show Hid _; exact hide ⟨rfl, fun h => absurd h (by omega)⟩, Below.refl _ _⟩
  case round =>
    obtain ⟨k, hk, rfl, HR, hb⟩ := hrel
    have Hb := hide hb
    clear hb
    by_cases hlt : k < N
    · obtain ⟨b, o, f, rfl, hbl, hf, hd, d0, d1⟩ := Hs.out.at (w' := wr) Hb.out (k := k) (by have := HN.out; omega)
      have hstep := go_step hf hd
      have HP := hide (fun w => rpath_any f.path w (Hm.out f (List.mem_of_getElem? hf)))
      have HK := hide (show (0 < k → ∃ g, t[k - 1]? = some g ∧ g.path.length ≤ 200) from HR.out.2)
      rw [← HR.out.1] at hstep
      have Hf := hide hf
      obtain ⟨x, hx⟩ : ∃ x, x = f.text := ⟨_, rfl⟩
      obtain ⟨p, hp⟩ : ∃ p, p = f.path := ⟨_, rfl⟩
      rw [← hx] at d1 hstep
      rw [← hp] at d0 hstep HP
      have Hp := hide hp
      clear hx hp hf hd HR hbl
      by_cases hc : can p = true
      · rw [hc] at HP
        rw [hc, Bool.true_and] at hstep
        have hp2 : p.length ≤ 200 := by
          unfold can at hc
          rw [Bool.and_eq_true, decide_eq_true_eq] at hc
          exact hc.1
        by_cases hx : 65536 < x.length
        · rw [decide_eq_false (show ¬ x.length ≤ 65536 by omega), Bool.false_and, Bool.false_and] at hstep
          have Hr := hide hstep
          have dx : decide (65536 < (x.length : Int)) = true := decide_eq_true (by omega)
          have dx2 : decide (65536 < x.length) = true := decide_eq_true hx
          clear hstep hx hc hp2
          go_wp2_with fail
          refine (HP.out _).mono ?_
          rintro y w1 ⟨rfl, rfl⟩
          go_wp2
          go_ret
          exact ⟨by rw [HR0.out, Hr.out]; rfl, Hb.out⟩
        · rw [decide_eq_true (show x.length ≤ 65536 by omega), Bool.true_and] at hstep
          have dx : decide (65536 < (x.length : Int)) = false := decide_eq_false (by omega)
          have dx2 : decide (65536 < x.length) = false := decide_eq_false hx
          have Hstep := hide hstep
          clear hstep hx hc
          by_cases hk0 : k = 0
          · subst hk0
            simp only [Nat.zero_mul, Nat.add_zero] at d0 d1
            have Hnx := hide (show go none t = go (ahead t 1) (t.drop 1) by rw [Hstep.out, show above (ahead t 0) p = true from rfl, Bool.true_and])
            clear Hstep HK
            go_wp2_with fail
            refine (HP.out _).mono ?_
            rintro y w1 ⟨rfl, rfl⟩
            go_wp2
            refine Rg.wp_region_ord (fun w' => w' = w1.drew) [(0, true), (1, true), (2, true), (3, true), (4, true), (5, true), (6, true), (7, true), (8, true), (9, true), (10, true), (11, true), (12, true), (13, true), (14, true), (15, true), (16, true)] (by kernel_rfl) (by kernel_rfl) ?_
            simp only [Rg.pick, List.map_cons, List.map_nil, List.getD_cons_zero, List.getD_cons_succ]
            iterate 3 (refine Rg.ord_quiet (v := ?_) rfl (fun w' hS => ?_) rfl ?_; rotate_left; (subst hS; go_simp; with_reducible rfl); simp only [Act.put, List.setIfInBounds_toArray, List.set_cons_succ, List.set_cons_zero])
            iterate 13 (refine Rg.ord_passed (by rfl) rfl ?_; simp only [Act.put, List.setIfInBounds_toArray, List.set_cons_succ, List.set_cons_zero])
            iterate 1 (refine Rg.ord_quiet (v := ?_) rfl (fun w' hS => ?_) rfl ?_; rotate_left; (subst hS; go_simp; with_reducible rfl); simp only [Act.put, List.setIfInBounds_toArray, List.set_cons_succ, List.set_cons_zero])
            refine Rg.ord_nil ?_
            have Hbd := hide (Hb.out.drew)
            go_wp2
            exact ⟨⟨1, by omega, by go_num, by show Hid _; exact hide ⟨Hnx.out, fun _ => ⟨f, Hf.out, by rw [← Hp.out]; exact hp2⟩⟩, Hbd.out⟩, by simp [intOf]; omega⟩
          · obtain ⟨g, hg, hg2⟩ := HK.out (by omega)
            obtain ⟨km, hkm⟩ : ∃ z, z = k - 1 := ⟨_, rfl⟩
            rw [← hkm] at hg
            obtain ⟨b', o', g', hA, _, hg', _, k0, _⟩ := Hs.out.at (w' := wr) Hb.out (k := km) (by have := HN.out; omega)
            have e1 := hA
            simp only [Option.some.injEq, Addr.mk.injEq, and_true] at e1
            obtain ⟨rfl, rfl⟩ := e1
            rw [hg] at hg'
            simp only [Option.some.injEq] at hg'
            subst hg'
            have Hah := hide (show ahead t k = some g.path by unfold ahead; rw [if_neg hk0, ← hkm, hg]; rfl)
            obtain ⟨p0, hp0⟩ : ∃ z, z = g.path := ⟨_, rfl⟩
            rw [← hp0] at k0 Hah hg2
            have HLs := hide (fun w => rless_any p0 p w (by omega) (by omega))
            have hkw : IntKind.i64.wrap ((k : Int) - 1) = (km : Int) := by rw [IntWalk.i64_in _ (by omega)]; omega
            have hk1 : decide ((0 : Int) < (k : Int)) = true := decide_eq_true (by omega)
            have hk2 : (0 : Int) < (k : Int) := by omega
            have hk3 : decide (0 < k) = true := decide_eq_true (by omega)
            have hk4 : 0 < k := by omega
            have hkmN : km < N := by omega
            clear hkm hp0 hg hA HK hk0
            go_wp2_with fail
            refine (HP.out _).mono ?_
            rintro y w1 ⟨rfl, rfl⟩
            go_wp2
            have s0 : w1.drew.cell? ⟨b, o + km * 2, none⟩ = some (.string ⟨p0.toArray⟩) := k0
            have s1 : w1.drew.cell? ⟨b, o + k * 2, none⟩ = some (.string ⟨p.toArray⟩) := d0
            refine Rg.wp_region_ord (fun w' => w'.cell? ⟨b, o + km * 2, none⟩ = some (.string ⟨p0.toArray⟩) ∧ w'.cell? ⟨b, o + k * 2, none⟩ = some (.string ⟨p.toArray⟩)) [(0, true), (1, true), (2, true), (3, true), (4, true), (5, true), (6, true), (7, true), (8, true), (9, true), (10, true), (11, true), (12, true), (13, true), (14, false), (15, true), (16, true)] (by kernel_rfl) (by kernel_rfl) ?_
            simp only [Rg.pick, List.map_cons, List.map_nil, List.getD_cons_zero, List.getD_cons_succ]
            iterate 3 (refine Rg.ord_quiet (v := ?_) rfl (fun w' hS => ?_) ⟨s0, s1⟩ ?_; rotate_left; (obtain ⟨q0, q1⟩ := hS; go_simp; with_reducible rfl); simp only [Act.put, List.setIfInBounds_toArray, List.set_cons_succ, List.set_cons_zero])
            iterate 11 (refine Rg.ord_guarded (v := ?_) (by rfl) (fun w' hS => ?_) ⟨s0, s1⟩ ?_; rotate_left; (obtain ⟨q0, q1⟩ := hS; go_simp; with_reducible rfl); simp only [Act.put, List.setIfInBounds_toArray, List.set_cons_succ, List.set_cons_zero])
            refine Rg.ord_loud (by rfl) (fun K hK => ?_)
            go_simp
            refine (HLs.out _).mono ?_
            rintro y w2 ⟨rfl, hb2⟩
            refine hK _ _ (fun _ => ⟨agr s0 hb2, agr s1 hb2⟩) ?_
            clear hK K
            have r0 := agr s0 hb2
            have r1 := agr s1 hb2
            have Hb2 := hide (Hb.out.drew.trans (hb2.mono Hb.out.drew.size))
            clear hb2 s0 s1 k0 d0 d1
            cases hL : Op.bytesLess p0 p
            · have Hnx := hide (show go none t = false by rw [Hstep.out, Hah.out, show above (some p0) p = Op.bytesLess p0 p from rfl, hL, Bool.false_and])
              iterate 1 (refine Rg.ord_guarded (v := ?_) (by rfl) (fun w' hS => ?_) ⟨r0, r1⟩ ?_; rotate_left; (obtain ⟨q0, q1⟩ := hS; go_simp; with_reducible rfl); simp only [Act.put, List.setIfInBounds_toArray, List.set_cons_succ, List.set_cons_zero])
              iterate 1 (refine Rg.ord_quiet (v := ?_) rfl (fun w' hS => ?_) ⟨r0, r1⟩ ?_; rotate_left; (obtain ⟨q0, q1⟩ := hS; go_simp; with_reducible rfl); simp only [Act.put, List.setIfInBounds_toArray, List.set_cons_succ, List.set_cons_zero])
              refine Rg.ord_nil ?_
              clear r0 r1 hL
              go_wp2
              go_ret
              exact ⟨by rw [HR0.out, Hnx.out]; rfl, Hb2.out⟩
            · have Hnx := hide (show go none t = go (ahead t (k + 1)) (t.drop (k + 1)) by rw [Hstep.out, Hah.out, show above (some p0) p = Op.bytesLess p0 p from rfl, hL, Bool.true_and])
              iterate 1 (refine Rg.ord_guarded (v := ?_) (by rfl) (fun w' hS => ?_) ⟨r0, r1⟩ ?_; rotate_left; (obtain ⟨q0, q1⟩ := hS; go_simp; with_reducible rfl); simp only [Act.put, List.setIfInBounds_toArray, List.set_cons_succ, List.set_cons_zero])
              iterate 1 (refine Rg.ord_quiet (v := ?_) rfl (fun w' hS => ?_) ⟨r0, r1⟩ ?_; rotate_left; (obtain ⟨q0, q1⟩ := hS; go_simp; with_reducible rfl); simp only [Act.put, List.setIfInBounds_toArray, List.set_cons_succ, List.set_cons_zero])
              refine Rg.ord_nil ?_
              clear r0 r1 hL hk1 hk2 hk3 hk4 hkw
              go_wp2
              exact ⟨⟨k + 1, by omega, by go_num, by show Hid _; exact hide ⟨Hnx.out, fun _ => ⟨f, Hf.out, by rw [← Hp.out]; exact hp2⟩⟩, Hb2.out⟩, by simp [intOf]; omega⟩
      · have hcf : can p = false := by simpa using hc
        rw [hcf] at HP
        rw [hcf, Bool.false_and, Bool.false_and, Bool.false_and] at hstep
        have Hr := hide hstep
        clear hstep hc hcf
        go_wp2_with fail
        refine (HP.out _).mono ?_
        rintro y w1 ⟨rfl, rfl⟩
        go_wp2
        go_ret
        exact ⟨by rw [HR0.out, Hr.out]; rfl, Hb.out⟩
    · obtain rfl : k = N := by omega
      have Hr := hide (show go none t = true by rw [HR.out.1, HN.out, List.drop_length]; rfl)
      clear HR
      go_wp2
      go_ret
      exact ⟨by rw [HR0.out, Hr.out, Bool.true_and]; rfl, Hb.out⟩
end Go.Proofs.YtabgkfkjnpcbkaaDoor.Tr
