/-
  The law DagTwice, over any graph that keeps the contract.
-/
import Derived.Test.YtlfncnnfpniigaaDL
namespace Go.Proofs.Ytlfncnnfpniigaa.Dq
open Go Go.RowKit Kt Kg Lw Tr

theorem known_iff {D : List Nd} {id : Bs} : (get D id).isSome = true ↔ ∃ y ∈ bas D, y.1 = id := by
  constructor
  · intro h
    obtain ⟨n, hn⟩ := Option.isSome_iff_exists.1 h
    obtain ⟨h1, h2⟩ := get_some hn
    exact ⟨(n.id, n.ps), List.mem_map.2 ⟨n, h1, rfl⟩, h2⟩
  · rintro ⟨y, hy, rfl⟩
    obtain ⟨n, hn, rfl⟩ := List.mem_map.1 hy
    cases h : get D n.id with
    | some m => rfl
    | none => exact absurd rfl (get_none h n hn)
theorem run_known {l : List Nd} : ∀ k, ∀ n ∈ l.take k, (get (run (l.take k)) n.id).isSome = true
  | 0, n, hn => by simp at hn
  | k + 1, n, hn => by
    cases hx : l[k]? with
    | none =>
      have e : l.take (k + 1) = l.take k := by rw [List.take_add_one, hx]; simp
      rw [e] at hn ⊢
      exact run_known k n hn
    | some m =>
      have hk := run_keeps (l.take k)
      rw [run_next hx, known_iff]
      rw [List.take_add_one, hx] at hn
      have hb := (add_keeps hk.1 hk.2.1 m.id m.ps).2.2.1
      rcases List.mem_append.1 hn with hn | hn
      · obtain ⟨y, hy, e⟩ := known_iff.1 (run_known k n hn)
        exact ⟨y, (hb y).2 (.inl hy), e⟩
      · obtain rfl : n = m := by simpa using hn
        cases hg : get (run (l.take k)) n.id with
        | none => exact ⟨_, (hb (n.id, sortIds n.ps)).2 (.inr ⟨hg, rfl⟩), rfl⟩
        | some y =>
          obtain ⟨y, hy, e⟩ := known_iff.1 (show (get (run (l.take k)) n.id).isSome = true by rw [hg]; rfl)
          exact ⟨y, (hb y).2 (.inl hy), e⟩
theorem run_knows {l : List Nd} {n : Nd} (hn : n ∈ l) : (get (run l) n.id).isSome = true := by
  have := run_known (l := l) l.length n (by rw [List.take_length]; exact hn)
  rwa [List.take_length] at this
theorem parents_len {D : List Nd} (h : Okd D) (id : Bs) : (parents D id).length ≤ 6 := by
  unfold parents
  split
  · next n hg =>
    split
    · exact (h.ids n (get_some hg).1).2.1
    · exact Nat.zero_le _
  · exact Nat.zero_le _
theorem own_fr {w : World} {B : Nat} {v : Value} {l : List Bs} (h : OwT w B tId v l) : ∃ A c F, v = .slice A l.length c ∧ (∀ k, F k → B ≤ k ∧ k < w.heap.size) ∧ Vs w F A c (texts l) := by
  obtain ⟨A, c, e, _, hv⟩ := own_vs h
  exact ⟨A, c, fun k => v.ownBlock = some k, e, fun k hk => World.ownsRow.lt h k hk, hv⟩
theorem lit_node (w : World) (ps : List Bs) (A : Option Addr) (c : Nat) (P : Nat → Prop) (hv : Vs w P A c (texts ps)) : Nds (w.alloc (.cells #[.string ⟨#[]⟩, .slice A ps.length c, .bool false] tNd)) (some ⟨w.heap.size, 0, none⟩) 1 [⟨[], ps, false⟩] := by
  refine ⟨Nat.le_refl _, fun _ => ⟨w.heap.size, 0, rfl, by rw [World.size_alloc]; exact Nat.lt_succ_self _, fun j n hj => ?_⟩⟩
  have hj0 : j = 0 := by have := (List.getElem?_eq_some_iff.1 hj).1; simp at this; omega
  subst hj0
  simp at hj
  subst hj
  refine ⟨A, c, fun i v hi => ?_, ?_⟩
  · show World.cell? _ ⟨w.heap.size, 0 + 3 * 0 + i, none⟩ = some v
    rw [show 0 + 3 * 0 + i = i by omega, (Row.fresh w tNd _).cell]
    rcases i with _ | _ | _ | i
    · simpa [ndC] using hi
    · simpa [ndC] using hi
    · simpa [ndC] using hi
    · simp [ndC] at hi
  · exact vs_on (vs_low hv) ((Below.refl _ w).alloc (Nat.le_refl _) _)
set_option maxRecDepth 100000 in
set_option maxHeartbeats 4000000 in
theorem lawTwice_any {In : World → (Nat → Prop) → Nat → List Nd → Prop} (at_ : Nat) (l : List Nd) (ps : List Bs) (A A1 : Option Addr) (c c1 : Nat) (P1 : Nat → Prop) (w : World) (C : Cd w In) (hs : Nds w A c l) (hs1 : Vs w P1 A1 c1 (texts ps)) (hl : l.length ≤ 9223372036854775807) (hat : at_ < 256) :
    Calls Try.prog 6 #[.slice A l.length c, .int .u8 (at_ : Int), .slice A1 ps.length c1] w fun y w' => y = .returned (.bool true) ∧ Below w.heap.size w w' := by
  have HC := hide C
  have Hs := hide hs
  have Hs1 := hide (vs_low hs1)
  have Hl := hide hl
  have Hat := hide hat
  have Hw := hide (dwake_any w C)
  obtain ⟨N, hN⟩ : ∃ N, N = l.length := ⟨_, rfl⟩
  have HN := hide hN
  obtain ⟨N1, hN1⟩ : ∃ N, N = ps.length := ⟨_, rfl⟩
  have HN1 := hide hN1
  rw [← hN] at hl ⊢
  rw [← hN1]
  clear C hs hs1 hN hN1 hat
  go_enter Try.func6, Try.ntmps6
  go_wp2_with fail
  refine Hw.out.mono ?_
  rintro y w1 ⟨rfl, hb1⟩
  have HB1 := hide hb1
  have HFew := hide (rfew_any l A c w1 (Hs.out.keep hb1) Hl.out)
  rw [← HN.out] at HFew
  clear hb1 Hw
  go_wp2_with fail
  refine HFew.out.mono ?_
  rintro y w2 ⟨rfl, hb2⟩
  have HB2 := hide (HB1.out.trans (hb2.mono HB1.out.size))
  obtain ⟨wa, hwa⟩ : ∃ z, z = w2.alloc (.cells #[.string ⟨#[]⟩, .slice A1 N1 c1, .bool false] tNd) := ⟨_, rfl⟩
  have hba : Below w2.heap.size w2 wa := by rw [hwa]; exact (Below.refl _ w2).alloc (Nat.le_refl _) _
  have hna := lit_node w2 ps A1 c1 _ (vs_keep Hs1.out HB2.out)
  rw [← HN1.out, ← hwa] at hna
  have HFew2 := hide (rfew_any [⟨[], ps, false⟩] (some ⟨w2.heap.size, 0, none⟩) 1 wa hna (by simp))
  have hfe2 : fewN [⟨[], ps, false⟩] = idsFew ps := by simp [fewN]
  rw [hfe2] at HFew2
  have HBa := hide (HB2.out.trans (hba.mono HB2.out.size))
  have HWa := hide hwa
  clear hb2 HFew HB1 hwa hba hna hfe2
  go_wp2_with fail
  rw [← HWa.out]
  refine HFew2.out.mono ?_
  rintro y w3 ⟨rfl, hb3⟩
  have HB3 := hide (HBa.out.trans (hb3.mono HBa.out.size))
  clear hb3 HFew2 HBa HB2 HWa
  cases hfe : fewN l with
  | false =>
    go_wp2
    go_ret
    exact ⟨rfl, HB3.out⟩
  | true =>
    cases hmo : idsFew ps with
    | false =>
      go_wp2
      go_ret
      exact ⟨rfl, HB3.out⟩
    | true =>
      by_cases hz : N = 0
      · have hz0 : ((N : Int) == 0) = true := by simp; omega
        clear hfe hmo
        go_wp2
        go_ret
        exact ⟨rfl, HB3.out⟩
      · have hz0 : ((N : Int) == 0) = false := by simp; omega
        have HAd := hide (added_any l A c w w3 HC.out HB3.out Hs.out hfe)
        rw [← HN.out] at HAd
        have HPs := hide (idsFew_spec hmo)
        have HFe := hide (fewN_spec hfe)
        have HZ := hide hz
        clear hfe hmo hz
        go_wp2_with fail
        clear hz0
        refine HAd.out.mono ?_
        rintro y w4 ⟨g, rfl, hg4, _⟩
        have HDl := hide (show (run l).length < 20 by have := (run_keeps l).2.2; have := HFe.out.2; omega)
        have HKn := hide (fun n (hn : n ∈ l) => run_knows hn)
        obtain ⟨D, hD⟩ : ∃ D, D = run l := ⟨_, rfl⟩
        rw [← hD] at hg4 HDl HKn
        have HG4 := hide hg4
        have HId := hide (hg4.ids HC.out)
        clear hg4 hD HAd HB3
        go_wp2_with fail
        refine HId.out.mono ?_
        rintro y w5 ⟨v5, rfl, hown5, hb5⟩
        obtain ⟨A5, c5, F5, rfl, hF5, hv5⟩ := own_fr hown5
        have HV5 := hide hv5
        have HF5 := hide hF5
        have HG5 := hide ((HG4.out.below HC.out hb5).imp (F' := F5) fun k hk => .inr (hF5 k hk))
        have HWt := hide (HG5.out.waiting HC.out)
        clear hown5 hb5 hv5 hF5 HId HG4
        go_wp2_with fail
        refine HWt.out.mono ?_
        rintro y w6 ⟨v6, rfl, hown6, hb6⟩
        obtain ⟨A6, c6, F6, rfl, hF6, hv6⟩ := own_fr hown6
        have HV5 := hide (vs_move (w' := w6) HV5.out fun b hb => hb6.block b (HF5.out b hb).2)
        have HV6 := hide hv6
        have HF6 := hide hF6
        have HG6 := hide ((HG5.out.below HC.out hb6).imp (F' := fun k => F5 k ∨ F6 k) fun k hk => hk.imp id (hF6 k))
        obtain ⟨j, hj⟩ : ∃ j, j = at_ % N := ⟨_, rfl⟩
        have hjN : j < N := by rw [hj]; exact Nat.mod_lt _ (by have := HZ.out; omega)
        have hrm : (at_ : Int).tmod (N : Int) = (j : Int) := by rw [hj, Int.ofNat_tmod]
        have hne : ¬ (N : Int) = 0 := by have := HZ.out; omega
        have hwA : IntKind.i64.wrap (at_ : Int) = (at_ : Int) := IntWalk.i64_in _ (by have := Hat.out; omega)
        have hwJ : IntKind.i64.wrap (j : Int) = (j : Int) := IntWalk.i64_in _ (by omega)
        obtain ⟨n, hx⟩ : ∃ n, l[j]? = some n := ⟨_, List.getElem?_eq_getElem (by have := HN.out; omega)⟩
        obtain ⟨b, o, A', c', rfl, hX, _⟩ := Hs.out.ever hx
        have k0 := (hX w6 HG6.out.low).1
        have HNm := hide (List.mem_of_getElem? hx)
        have HPa := hide (HG6.out.parents HC.out n.id (HFe.out.1 n HNm.out).1)
        clear hown6 hb6 hv6 hF6 HWt HG5 hj hx hX
        go_wp2_with fail
        clear k0 hrm hne hwA hwJ hjN
        refine HPa.out.mono ?_
        rintro y w7 ⟨v7, rfl, hown7, hb7⟩
        obtain ⟨A7, c7, F7, rfl, hF7, hv7⟩ := own_fr hown7
        have HV5 := hide (vs_move (w' := w7) HV5.out fun b hb => hb7.block b (HG6.out.at_.elim fun S h => (h.2.2 b (.inl hb)).1))
        have HV6 := hide (vs_move (w' := w7) HV6.out fun b hb => hb7.block b (HF6.out b hb).2)
        have HV7 := hide hv7
        have HG7 := hide ((HG6.out.below HC.out hb7).imp (F' := fun k => (F5 k ∨ F6 k) ∨ F7 k) fun k hk => hk.imp id (hF7 k))
        have hadd := HG7.out.add HC.out n.id ps A1 c1 _ HDl.out (vs_keep Hs1.out HG7.out.low) (fun k hk => .inr hk) (HFe.out.1 n HNm.out).1 HPs.out
        rw [add_known (HKn.out n HNm.out), ← HN1.out] at hadd
        have HAdd := hide hadd
        clear hown7 hb7 hv7 hF7 HPa HG6 hadd
        go_wp2_with fail
        refine HAdd.out.mono ?_
        rintro y w8 ⟨v8, rfl, hown8, hg8, hf8, _, _⟩
        obtain ⟨A8, c8, rfl, _, _⟩ := own_vs hown8
        have HV5 := hide (vs_low (vs_move (w' := w8) HV5.out fun b hb => hf8 b (.inl (.inl hb))))
        have HV6 := hide (vs_low (vs_move (w' := w8) HV6.out fun b hb => hf8 b (.inl (.inr hb))))
        have HV7 := hide (vs_low (vs_move (w' := w8) HV7.out fun b hb => hf8 b (.inr hb)))
        have HG8 := hide (hg8.imp (F' := fun _ => False) fun _ h => h.elim)
        have HId := hide (HG8.out.ids HC.out)
        have HL1 := hide (show (all D true).length ≤ 20 from Nat.le_trans (all_len D true) HG8.out.ok.few)
        have HL2 := hide (show (all D false).length ≤ 20 from Nat.le_trans (all_len D false) HG8.out.ok.few)
        have HL3 := hide (parents_len HG8.out.ok n.id)
        obtain ⟨I1, hI1⟩ : ∃ z, z = all D true := ⟨_, rfl⟩
        obtain ⟨I2, hI2⟩ : ∃ z, z = all D false := ⟨_, rfl⟩
        obtain ⟨I3, hI3⟩ : ∃ z, z = parents D n.id := ⟨_, rfl⟩
        rw [← hI1] at HV5 HId HL1 ⊢
        rw [← hI2] at HV6 HL2
        rw [← hI2]
        rw [← hI3] at HV7 HL3
        rw [← hI3]
        have HI2 := hide hI2
        have HI3 := hide hI3
        clear hown8 hg8 hf8 HAdd HG7 hI1 hI2 hI3
        go_wp2_with fail
        refine HId.out.mono ?_
        rintro y w9 ⟨v9, rfl, hown9, hb9⟩
        obtain ⟨A9, c9, rfl, hv9, _⟩ := own_vs hown9
        have HG9 := hide (HG8.out.stay HC.out hb9)
        have HCm := hide (ids_any I1 I1 A9 A5 c9 c5 _ _ w9 hv9 (vs_keep HV5.out hb9) (by have := HL1.out; omega))
        rw [decide_eq_true rfl] at HCm
        have HB9 := hide hb9
        clear hown9 hb9 hv9 HId HV5
        go_wp2_with fail
        refine HCm.out.mono ?_
        rintro y wA ⟨rfl, hbA⟩
        have HGA := hide (HG9.out.stay HC.out hbA)
        have HBA := hide (HB9.out.trans (hbA.mono HB9.out.size))
        have HWt := hide (HGA.out.waiting HC.out)
        rw [← HI2.out] at HWt
        clear hbA HCm HG9 HB9
        go_wp2_with fail
        refine HWt.out.mono ?_
        rintro y wB ⟨vB, rfl, hownB, hbB⟩
        obtain ⟨AB, cB, rfl, hvB, _⟩ := own_vs hownB
        have HGB := hide (HGA.out.stay HC.out hbB)
        have HBB := hide (HBA.out.trans (hbB.mono HBA.out.size))
        have HCm := hide (ids_any I2 I2 AB A6 cB c6 _ _ wB hvB (vs_keep HV6.out HBB.out) (by have := HL2.out; omega))
        rw [decide_eq_true rfl] at HCm
        clear hownB hbB hvB HWt HV6 HGA HBA
        go_wp2_with fail
        refine HCm.out.mono ?_
        rintro y wD ⟨rfl, hbD⟩
        have HGD := hide (HGB.out.stay HC.out hbD)
        have HBD := hide (HBB.out.trans (hbD.mono HBB.out.size))
        have HPa := hide (HGD.out.parents HC.out n.id (HFe.out.1 n HNm.out).1)
        rw [← HI3.out] at HPa
        clear hbD HCm HGB HBB
        go_wp2_with fail
        refine HPa.out.mono ?_
        rintro y wE ⟨vE, rfl, hownE, hbE⟩
        obtain ⟨AE, cE, rfl, hvE, _⟩ := own_vs hownE
        have HGE := hide (HGD.out.stay HC.out hbE)
        have HBE := hide (HBD.out.trans (hbE.mono HBD.out.size))
        have HCm := hide (ids_any I3 I3 AE A7 cE c7 _ _ wE hvE (vs_keep HV7.out HBE.out) (by have := HL3.out; omega))
        rw [decide_eq_true rfl] at HCm
        clear hownE hbE hvE HPa HV7 HGD HBD
        go_wp2_with fail
        refine HCm.out.mono ?_
        rintro y wF ⟨rfl, hbF⟩
        have HBF := hide (HGE.out.low.trans (hbF.mono HGE.out.low.size))
        clear hbF HCm HGE
        go_wp2
        go_ret
        exact ⟨rfl, HBF.out⟩
end Go.Proofs.Ytlfncnnfpniigaa.Dq
