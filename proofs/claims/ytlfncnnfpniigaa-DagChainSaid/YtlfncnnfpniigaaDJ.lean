/-
  Few; a graph to which nodes were added.
-/
import Derived.Test.YtlfncnnfpniigaaDE
import Derived.Test.YtlfncnnfpniigaaDG
import Derived.Test.YtlfncnnfpniigaaRegB
import Derived.BigQuiet
namespace Go.Proofs.Ytlfncnnfpniigaa.Dq
open Go Go.RowKit Kt Kg Lw Tr

theorem few_at {l : List Nd} {k : Nat} {n : Nd} (h : (l.take k).all (fun n => decide (n.id.length ≤ 40) && idsFew n.ps) = true) (hk : l[k]? = some n) (h1 : n.id.length ≤ 40) (h2 : idsFew n.ps = true) : (l.take (k + 1)).all (fun n => decide (n.id.length ≤ 40) && idsFew n.ps) = true := by
  rw [List.take_add_one, hk, List.all_append, h]
  simp [h1, h2]
theorem few_not {l : List Nd} {k : Nat} {n : Nd} (hk : l[k]? = some n) (h : ¬ (n.id.length ≤ 40 ∧ idsFew n.ps = true)) : fewN l = false := by
  cases hf : fewN l with
  | false => rfl
  | true =>
    unfold fewN at hf
    rw [Bool.and_eq_true, List.all_eq_true] at hf
    have := hf.1 n (List.mem_of_getElem? hk)
    rw [Bool.and_eq_true, decide_eq_true_eq] at this
    exact absurd this h
set_option maxRecDepth 100000 in
set_option maxHeartbeats 4000000 in
theorem rfew_any (l : List Nd) (A : Option Addr) (c : Nat) (w : World) (hs : Nds w A c l) (hl : l.length ≤ 9223372036854775807) :
    Calls Try.prog 9 #[.slice A l.length c] w fun y w' => y = .returned (.bool (fewN l)) ∧ Below w.heap.size w w' := by
  have Hs := hide hs
  obtain ⟨N, hN⟩ : ∃ N, N = l.length := ⟨_, rfl⟩
  have HN := hide hN
  rw [← hN] at hl ⊢
  clear hs hN
  go_enter Try.func9, Try.ntmps9
  go_wp2
  go_loopw [3] (fun i wr => ∃ k : Nat, k ≤ N ∧ i = .int .i64 k ∧ Hid ((l.take k).all (fun n => decide (n.id.length ≤ 40) && idsFew n.ps) = true) ∧ Hid (Below w.heap.size w wr)) (fun i _ => N - (intOf i).toNat)
  case atStart => exact ⟨0, Nat.zero_le _, rfl, by show Hid _; exact hide rfl, by show Hid _; exact hide (Below.refl _ _)⟩
  case round =>
    obtain ⟨k, hk, rfl, HA, HB⟩ := hrel
    by_cases hlt : k < N
    · obtain ⟨n, hx⟩ : ∃ n, l[k]? = some n := ⟨_, List.getElem?_eq_getElem (by have := HN.out; omega)⟩
      obtain ⟨b, o, A', c', rfl, k0, k1, k2, hv⟩ := Hs.out.at HB.out hx
      have HV := hide hv
      have HX := hide hx
      obtain ⟨M, hM⟩ : ∃ M, M = n.ps.length := ⟨_, rfl⟩
      rw [← hM] at k1
      have HM := hide hM
      clear k2 hv hx hM
      by_cases h40 : n.id.length ≤ 40
      · have HI := hide h40
        by_cases h6 : M ≤ 6
        · have d1 : decide ((40 : Int) < (n.id.length : Int)) = false := decide_eq_false (by omega)
          have d2 : decide ((6 : Int) < (M : Int)) = false := decide_eq_false (by omega)
          have H6 := hide h6
          have HK0 := hide (And.intro k0 k1)
          obtain ⟨wo, hwo⟩ : ∃ z, z = wr := ⟨_, rfl⟩
          subst hwo
          go_wp2
          clear k0 k1 d1 d2
          go_loopw [4] (fun i wz => ∃ j : Nat, j ≤ M ∧ i = .int .i64 j ∧ Hid (∀ p ∈ n.ps.take j, p.length ≤ 40) ∧ Hid (Below wo.heap.size wo wz)) (fun i _ => M - (intOf i).toNat)
          case atStart => exact ⟨0, Nat.zero_le _, rfl, by show Hid _; exact hide (fun p hp => by simp at hp), by show Hid _; exact hide (Below.refl _ _)⟩
          case round =>
            obtain ⟨j, hj, rfl, HP, HZ⟩ := hrel
            have k1 := (World.cell?_of_block (a := ⟨b, o + k * 3 + 1, none⟩) (HZ.out.block b (World.block_lt_of_cell? wo ⟨b, o + k * 3 + 1, none⟩ HK0.out.2))).trans HK0.out.2
            have HBZ := hide (HB.out.trans (HZ.out.mono HB.out.size))
            by_cases hjl : j < M
            · obtain ⟨p, hp⟩ : ∃ p, n.ps[j]? = some p := ⟨_, List.getElem?_eq_getElem (by have := HM.out; omega)⟩
              obtain ⟨bp, op, rfl, hpb, cp⟩ := vs_at HV.out hp
              have k2 := (World.cell?_of_block (a := ⟨bp, op + j, none⟩) (HBZ.out.block bp hpb)).trans cp
              have HPx := hide hp
              clear hpb cp hp
              by_cases hp40 : p.length ≤ 40
              · have HP2 := hide (show ∀ q ∈ n.ps.take (j + 1), q.length ≤ 40 from fun q hq => by
                  rw [List.take_add_one, HPx.out] at hq
                  rcases List.mem_append.1 hq with hq | hq
                  · exact HP.out q hq
                  · obtain rfl : q = p := by simpa using hq
                    exact hp40)
                have d1 : decide ((40 : Int) < (p.length : Int)) = false := decide_eq_false (by omega)
                clear hp40
                go_wp2
                exact ⟨⟨j + 1, by omega, by go_num, by show Hid _; exact HP2, by show Hid _; exact HZ⟩, by simp [intOf]; omega⟩
              · have d1 : decide ((40 : Int) < (p.length : Int)) = true := decide_eq_true (by omega)
                have HF := hide (few_not HX.out (fun h => hp40 ((idsFew_spec h.2).2 p (List.mem_of_getElem? HPx.out))))
                clear hp40
                go_wp2
                go_ret
                exact ⟨by rw [HF.out]; rfl, HBZ.out⟩
            · obtain rfl : j = M := by omega
              have HA2 := hide (few_at HA.out HX.out HI.out (show idsFew n.ps = true by
                unfold idsFew
                rw [Bool.and_eq_true, decide_eq_true_eq, List.all_eq_true]
                refine ⟨by have := HM.out; have := H6.out; omega, fun p hp => decide_eq_true (HP.out p ?_)⟩
                rw [HM.out, List.take_length]; exact hp))
              go_wp2
              exact ⟨⟨k + 1, by omega, by go_num, by show Hid _; exact HA2, by show Hid _; exact HBZ⟩, by simp [intOf]; omega⟩
        · have d1 : decide ((40 : Int) < (n.id.length : Int)) = false := decide_eq_false (by omega)
          have d2 : decide ((6 : Int) < (M : Int)) = true := decide_eq_true (by omega)
          have HF := hide (few_not HX.out (fun h => h6 (by have := (idsFew_spec h.2).1; have := HM.out; omega)))
          go_wp2
          go_ret
          exact ⟨by rw [HF.out]; rfl, HB.out⟩
      · have d1 : decide ((40 : Int) < (n.id.length : Int)) = true := decide_eq_true (by omega)
        have HF := hide (few_not HX.out (fun h => h40 h.1))
        go_wp2
        go_ret
        exact ⟨by rw [HF.out]; rfl, HB.out⟩
    · obtain rfl : k = N := by omega
      have HF := hide (show fewN l = decide (k ≤ 14) by
        have := HA.out
        rw [HN.out, List.take_length] at this
        unfold fewN
        rw [this, Bool.true_and, HN.out])
      go_wp2
      go_ret
      have e : decide ((k : Int) ≤ 14) = decide (k ≤ 14) := by rw [decide_eq_decide]; omega
      exact ⟨by rw [HF.out, ← e]; rfl, HB.out⟩
theorem run_next {l : List Nd} {k : Nat} {n : Nd} (h : l[k]? = some n) : run (l.take (k + 1)) = (add (run (l.take k)) n.id n.ps).1 := by
  rw [List.take_add_one, h]
  exact run_snoc _ _
set_option maxRecDepth 100000 in
set_option maxHeartbeats 4000000 in
theorem added_any {In : World → (Nat → Prop) → Nat → List Nd → Prop} (l : List Nd) (A : Option Addr) (c : Nat) (w0 w : World) (C : Cd w0 In) (hlow : Below w0.heap.size w0 w) (hs : Nds w0 A c l) (hf : fewN l = true) :
    Calls Try.prog 30 #[.slice A l.length c] w fun y w' => ∃ g, y = .returned (pt g) ∧ GD In w0 w' g (run l) (fun _ => False) ∧ Below w0.heap.size w0 w' := by
  have HC := hide C
  have Hs := hide hs
  have HFe := hide (fewN_spec hf)
  have HNew := hide (GD.new C hlow)
  obtain ⟨N, hN⟩ : ∃ N, N = l.length := ⟨_, rfl⟩
  have HN := hide hN
  have hl : N ≤ 9223372036854775807 := by have := HFe.out.2; omega
  rw [← hN]
  clear C hs hf hN hlow
  go_enter Try.func30, Try.ntmps30
  go_wp2_with fail
  refine HNew.out.mono ?_
  rintro y w1 ⟨g, rfl, hg1, hb1⟩
  have HG1 := hide (show GD In w0 w1 g [] (fun _ => False) from hg1.imp fun _ h => h.elim)
  clear hg1 hb1 HNew
  go_wp2
  go_loopw [4] (fun i wr => ∃ k : Nat, k ≤ N ∧ i = .int .i64 k ∧ Hid (GD In w0 wr g (run (l.take k)) (fun _ => False))) (fun i _ => N - (intOf i).toNat)
  case atStart => exact ⟨0, Nat.zero_le _, rfl, by show Hid _; exact HG1⟩
  case round =>
    obtain ⟨k, hk, rfl, HG⟩ := hrel
    clear HG1
    by_cases hlt : k < N
    · obtain ⟨n, hx⟩ : ∃ n, l[k]? = some n := ⟨_, List.getElem?_eq_getElem (by have := HN.out; omega)⟩
      obtain ⟨b, o, A', c', rfl, hX, hv⟩ := Hs.out.ever hx
      have HX := hide hX
      have hfe := HFe.out.1 n (List.mem_of_getElem? hx)
      have hrl : (run (l.take k)).length < 20 := by
        have := (run_keeps (l.take k)).2.2
        rw [List.length_take] at this
        have := HFe.out.2
        omega
      have hd : Below wr.heap.size wr wr.drew := (Below.refl _ _).drew
      have HAdd := hide ((HG.out.stay HC.out hd).add HC.out n.id n.ps A' c' _ hrl (vs_move (w' := wr.drew) hv fun b hb => (HG.out.low.drew).block b hb) (fun k hk => .inr hk) hfe.1 hfe.2)
      rw [← run_next hx] at HAdd
      obtain ⟨M, hM⟩ : ∃ M, M = n.ps.length := ⟨_, rfl⟩
      rw [← hM] at HAdd HX
      have hc := HX.out wr HG.out.low
      clear hx hX hv hfe hrl hd hM HG
      go_wp2
      refine Rg.wp_region_ord (fun w' => w'.cell? ⟨b, o + k * 3, none⟩ = some (.string ⟨n.id.toArray⟩) ∧ w'.cell? ⟨b, o + k * 3 + 1, none⟩ = some (.slice A' M c')) [(0, true), (1, true), (2, true), (3, true), (4, true), (5, true), (6, true), (7, true), (8, true), (9, true), (10, true), (11, false)] (by kernel_rfl) (by kernel_rfl) ?_
      simp only [Rg.pick, List.map_cons, List.map_nil, List.getD_cons_zero, List.getD_cons_succ]
      iterate 11 (refine Rg.ord_quiet (v := ?_) rfl (fun w' hS => ?_) hc ?_; rotate_left; (obtain ⟨s1, s2⟩ := hS; go_simp; with_reducible rfl); simp only [Act.put, List.setIfInBounds_toArray, List.set_cons_succ, List.set_cons_zero])
      refine Rg.ord_loud (by rfl) (fun K hK => ?_)
      go_simp
      refine HAdd.out.mono ?_
      rintro y w9 ⟨v, rfl, _, hg9, _, _, _⟩
      have HG9 := hide (hg9.imp (F' := fun _ => False) fun _ h => h.elim)
      clear hg9 HAdd hc
      refine hK _ _ (fun _ => HX.out w9 HG9.out.low) ?_
      clear hK K HX
      refine Rg.ord_nil ?_
      go_wp2
      exact ⟨⟨k + 1, by omega, by go_num, by show Hid _; exact HG9⟩, by simp [intOf]; omega⟩
    · obtain rfl : k = N := by omega
      have HG2 := hide (show GD In w0 wr g (run l) (fun _ => False) from by
        have := HG.out
        rwa [HN.out, List.take_length] at this)
      go_wp2
      go_ret
      exact ⟨g, rfl, HG2.out, HG2.out.low⟩
end Go.Proofs.Ytlfncnnfpniigaa.Dq
