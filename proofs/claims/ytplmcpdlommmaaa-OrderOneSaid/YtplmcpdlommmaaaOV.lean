/-
  The law OrderOne, over any graph that keeps the contract.
-/
import Derived.Test.YtplmcpdlommmaaaCZ
import Derived.Test.YtplmcpdlommmaaaCS
import Derived.Test.YtplmcpdlommmaaaCR
namespace Go.Proofs.Ytplmcpdlommmaaa.Oq
open Go Go.RowKit Kt Kg Lw Tr Dq

def rt (l : List Nd) (b i : Nat) : Nd := (l[(i + b) % l.length]?).getD ⟨[], [], false⟩
def idA (l : List Nd) (i : Nat) : Bs := ((l[i]?).map Nd.id).getD []
def rot (l : List Nd) (b k : Nat) : List Nd := (List.range k).map (rt l b)
theorem rot_next (l : List Nd) (b k : Nat) : rot l b (k + 1) = rot l b k ++ [rt l b k] := by unfold rot; rw [List.range_succ, List.map_append]; rfl
theorem turn_at {N b i : Nat} (hi : i < N) : (i + b) % N = if i + b % N < N then i + b % N else i + b % N - N := by
  have hb : b % N < N := Nat.mod_lt _ (by omega)
  rw [Nat.add_mod, Nat.mod_eq_of_lt hi]
  by_cases h : i + b % N < N
  · rw [if_pos h, Nat.mod_eq_of_lt h]
  · rw [if_neg h, Nat.mod_eq_sub_mod (by omega), Nat.mod_eq_of_lt (by omega)]
theorem rt_at {l : List Nd} {b i : Nat} (hi : i < l.length) : l[(i + b) % l.length]? = some (rt l b i) := by
  have h : (i + b) % l.length < l.length := Nat.mod_lt _ (by omega)
  unfold rt
  rw [List.getElem?_eq_getElem h]; rfl
theorem idA_at {l : List Nd} {i : Nat} {n : Nd} (h : l[i]? = some n) : idA l i = n.id := by unfold idA; rw [h]; rfl
theorem rot_mem {l : List Nd} {b : Nat} {n : Nd} : n ∈ rot l b l.length ↔ n ∈ l := by
  unfold rot
  rw [List.mem_map]
  constructor
  · rintro ⟨i, hi, rfl⟩
    exact List.mem_of_getElem? (rt_at (List.mem_range.1 hi))
  · intro h
    obtain ⟨j, hj⟩ := List.mem_iff_getElem?.1 h
    have hjl := (List.getElem?_eq_some_iff.1 hj).1
    have hb : b % l.length < l.length := Nat.mod_lt _ (by omega)
    obtain ⟨i, hi, e⟩ : ∃ i, i < l.length ∧ (i + b) % l.length = j := by
      by_cases h : b % l.length ≤ j
      · exact ⟨j - b % l.length, by omega, by rw [turn_at (by omega), if_pos (by omega)]; omega⟩
      · exact ⟨j + l.length - b % l.length, by omega, by rw [turn_at (by omega), if_neg (by omega)]; omega⟩
    refine ⟨i, List.mem_range.2 hi, ?_⟩
    have := rt_at (b := b) hi
    rw [e, hj] at this
    injection this with this
    exact this.symm
theorem rot_len (l : List Nd) (b k : Nat) : (rot l b k).length = k := by unfold rot; rw [List.length_map, List.length_range]
theorem rot_run {l : List Nd} {b : Nat} (h : ∀ i j, i < j → j < l.length → idA l i ≠ idA l j) : run (rot l b l.length) = run l := by
  have hne : ∀ i j, i < l.length → j < l.length → i ≠ j → idA l i ≠ idA l j := fun i j hi hj hij => by
    rcases Nat.lt_or_ge i j with k | k
    · exact h i j k hj
    · exact (h j i (by omega) hi).symm
  refine run_order ?_ ?_ fun n => rot_mem
  · refine List.pairwise_iff_getElem.2 fun i j hi hj hij => ?_
    rw [List.length_map, rot_len] at hi hj
    have ei : ∀ k (hk : k < (rot l b l.length).length), (rot l b l.length)[k] = rt l b k := fun k hk => by
      have h1 := List.getElem?_eq_getElem hk
      have h2 : (rot l b l.length)[k]? = some (rt l b k) := by
        rw [rot_len] at hk
        unfold rot
        rw [List.getElem?_map, List.getElem?_range hk]; rfl
      rw [h2] at h1
      injection h1 with h1
      exact h1.symm
    rw [List.getElem_map, List.getElem_map, ei, ei]
    rw [← idA_at (rt_at hi), ← idA_at (rt_at hj)]
    have hb : b % l.length < l.length := Nat.mod_lt _ (by omega)
    refine hne _ _ (Nat.mod_lt _ (by omega)) (Nat.mod_lt _ (by omega)) ?_
    rw [turn_at hi, turn_at hj]
    split <;> split <;> omega
  · refine List.pairwise_iff_getElem.2 fun i j hi hj hij => ?_
    rw [List.length_map] at hi hj
    rw [List.getElem_map, List.getElem_map]
    have := h i j hij hj
    rwa [idA_at (List.getElem?_eq_getElem hi), idA_at (List.getElem?_eq_getElem hj)] at this
theorem rot_fine {l : List Nd} {b : Nat} (h : Fine l) : Fine (rot l b l.length) := fun n hn => h n (rot_mem.1 hn)
set_option maxRecDepth 100000 in
set_option maxHeartbeats 8000000 in
theorem lawOne_any {In : World → (Nat → Prop) → Nat → List Nd → Prop} (l : List Nd) (A : Option Addr) (c : Nat) (b0 : Nat) (xa xb : Bs) (w : World) (C : Cd w In) (hs : Nds w A c l) (hl : l.length ≤ 9223372036854775807) (h1 : b0 < 256) :
    Calls Try.prog 5 #[.slice A l.length c, .int .u8 (b0 : Int), .string ⟨xa.toArray⟩, .string ⟨xb.toArray⟩] w fun y w' => y = .returned (.bool true) ∧ Below w.heap.size w w' := by
  have HC := hide C
  have Hs := hide hs
  have Hl := hide hl
  have Hw := hide (owake_any w C)
  obtain ⟨N, hN⟩ : ∃ N, N = l.length := ⟨_, rfl⟩
  have HN := hide hN
  rw [← hN]
  clear C hs hN hl
  go_enter Try.func5, Try.ntmps5
  go_wp2_with fail
  refine Hw.out.mono ?_
  rintro y w1 ⟨rfl, hb1⟩
  have HB1 := hide hb1
  have HFew := hide (rfew_any l A c w1 (Hs.out.keep hb1) Hl.out)
  rw [← HN.out] at HFew
  clear hb1 Hw
  go_wp2_with fail
  refine HFew.out.mono ?_
  rintro y w2 ⟨rfl, hb2⟩
  have HB2 := hide (HB1.out.trans (hb2.mono HB1.out.size))
  obtain ⟨wl, hwl⟩ : ∃ z, w2.alloc (.cells #[.string ⟨xa.toArray⟩, .string ⟨xb.toArray⟩] tId) = z := ⟨_, rfl⟩
  have hbl : Below w2.heap.size w2 wl := by rw [← hwl]; exact (Below.refl _ w2).alloc (Nat.le_refl _) _
  have hsl : Vs wl (fun b => b = w2.heap.size) (some ⟨w2.heap.size, 0, none⟩) 2 (texts [xa, xb]) := by rw [← hwl]; exact lit_ids w2 [xa, xb] _ rfl
  have HBl := hide (HB2.out.trans (hbl.mono HB2.out.size))
  have HFi := hide (fewI_any [xa, xb] _ 2 _ wl hsl (by simp))
  clear hb2 HFew HB1 hbl hsl HB2
  go_wp2_with fail
  clear hwl
  refine HFi.out.mono ?_
  rintro y w3 ⟨rfl, hb3⟩
  have HB3 := hide (HBl.out.trans (hb3.mono HBl.out.size))
  clear hb3 HFi HBl
  cases hfe : fewN l with
  | false =>
    go_wp2
    go_ret
    exact ⟨rfl, HB3.out⟩
  | true =>
    cases hfi : fewI [xa, xb] with
    | false =>
      go_wp2
      go_ret
      exact ⟨rfl, HB3.out⟩
    | true =>
      have HFl := hide (fine_of hfe)
      have HXa := hide (show xa.length ≤ 50 from by have := (fewI_spec hfi).1 xa (by simp); omega)
      have HXb := hide (show xb.length ≤ 50 from by have := (fewI_spec hfi).1 xb (by simp); omega)
      have hN14 : N ≤ 14 := by rw [HN.out]; exact HFl.out.2
      clear hfe hfi
      go_wp2
      go_loopw [12, 13] (fun mv iv wr => ∃ (k : Nat) (v : Value) (V : List (Nd × Value)), v = mv ∧ iv = .int .i64 k ∧ k ≤ N ∧ V.length = k ∧ Hid (NdR wr w3.heap.size v V) ∧ Hid (NdV w V ∧ V.map (·.1) = rot l b0 k) ∧ Hid (∀ i j, i < j → j < k → idA l i ≠ idA l j) ∧ Hid (Below w3.heap.size w3 wr)) (fun _ iv _ => N - (intOf iv).toNat)
      case atStart => exact ⟨0, _, [], rfl, rfl, Nat.zero_le _, rfl, by show Hid _; exact hide (NdR.nil _ _), by show Hid _; exact hide ⟨(fun p hp => by cases hp), rfl⟩, by show Hid _; exact hide (fun i j h1 h2 => by omega), by show Hid _; exact hide (Below.refl _ _)⟩
      case round =>
        obtain ⟨k, v, V, rfl, rfl, hk, hVk, HO, HV, HD, HB⟩ := hrel
        by_cases hlt : k < N
        · obtain ⟨nk, hnk⟩ : ∃ z, l[k]? = some z := ⟨_, List.getElem?_eq_getElem (by have := HN.out; omega)⟩
          obtain ⟨b, o, Ak, ck, rfl, heK, _⟩ := Hs.out.ever hnk
          have HeK := hide (fun W (hW : Below w3.heap.size w3 W) => (heK W (HB3.out.trans (hW.mono HB3.out.size))).1)
          have HIk := hide (idA_at hnk)
          clear hnk heK
          go_wp2
          obtain ⟨wo, hwo⟩ : ∃ z, z = wr := ⟨_, rfl⟩
          rw [← hwo]
          subst hwo
          go_loopw [14] (fun qv wr => ∃ q : Nat, q ≤ k ∧ qv = .int .i64 q ∧ Hid (NdR wr w3.heap.size v V) ∧ Hid (∀ i, i < q → idA l i ≠ idA l k) ∧ Hid (Below w3.heap.size w3 wr)) (fun qv _ => k - (intOf qv).toNat)
          case atStart => exact ⟨0, Nat.zero_le _, rfl, by show Hid _; exact HO, by show Hid _; exact hide (fun i h => by omega), by show Hid _; exact HB⟩
          case round =>
            clear HO HB
            obtain ⟨q, hq, rfl, HO, HQ, HB⟩ := hrel
            by_cases hlq : q < k
            · obtain ⟨nq', hnq⟩ : ∃ z, l[q]? = some z := ⟨_, List.getElem?_eq_getElem (by have := HN.out; omega)⟩
              obtain ⟨b2, o2, Aq, cq, e2, heQ, _⟩ := Hs.out.ever hnq
              injection e2 with e2
              injection e2 with e2 e3 _
              subst e2 e3
              have cq1 := (heQ wr (HB3.out.trans (HB.out.mono HB3.out.size))).1
              have ck1 := HeK.out wr HB.out
              have HIq := hide (idA_at hnq)
              obtain ⟨xk, hxk⟩ : ∃ z, z = nk.id := ⟨_, rfl⟩
              obtain ⟨xq, hxq⟩ : ∃ z, z = nq'.id := ⟨_, rfl⟩
              rw [← hxk] at ck1
              rw [← hxq] at cq1
              have HXk := hide hxk
              have HXq := hide hxq
              clear hnq heQ hxk hxq
              by_cases hqx : xq = xk
              · have hq1 : (xq == xk) = true := by simp [hqx]
                have HF := hide (HB3.out.trans (HB.out.mono HB3.out.size))
                clear hqx
                go_wp2
                go_quiet (fail)
                go_wp2
                (try simp only [Exit.inBlock, Exit.then])
                go_ret
                exact ⟨rfl, below_drewN HF.out nq⟩
              · have hq1 : (xq == xk) = false := by simpa using hqx
                have HQ2 := hide (show ∀ i, i < q + 1 → idA l i ≠ idA l k from fun i hi => by
                  by_cases e : i = q
                  · rw [e, HIq.out, HIk.out, ← HXk.out, ← HXq.out]; exact hqx
                  · exact HQ.out i (by omega))
                clear hqx
                go_wp2
                go_quiet (fail)
                go_wp2
                exact ⟨⟨q + 1, by omega, by go_num, by show Hid _; exact hide (HO.out.kept (below_drewN (Below.refl _ wr) nq)), by show Hid _; exact HQ2, by show Hid _; exact hide (below_drewN HB.out nq)⟩, by simp [intOf]; omega⟩
            · obtain rfl : k = q := by omega
              obtain ⟨r, hr0⟩ : ∃ r, r = (k + b0) % N := ⟨_, rfl⟩
              have hri : ((k : Int) + (b0 : Int)).tmod (N : Int) = (r : Int) := by rw [hr0, ← Int.natCast_add, Int.ofNat_tmod]
              have hrN : r < N := by rw [hr0]; exact Nat.mod_lt _ (by omega)
              have hrt : l[r]? = some (rt l b0 k) := by rw [hr0, HN.out]; exact rt_at (by rw [← HN.out]; exact hlt)
              obtain ⟨n, hn⟩ : ∃ z, z = rt l b0 k := ⟨_, rfl⟩
              rw [← hn] at hrt
              obtain ⟨b2, o2, A2, c2, e2, k1, k2, k3, hvn⟩ := Hs.out.at (HB3.out.trans (HB.out.mono HB3.out.size)) hrt
              injection e2 with e2
              injection e2 with e2 e3 _
              subst e2 e3
              have hne : ((N : Int) == 0) = false := by rw [beq_eq_false_iff_ne]; omega
              have hnz : ((N : Int) = 0) = False := by simp; omega
              have hlen1 : V.length + 1 ≤ 1000000000 := by omega
              have HV2 := hide (show NdV w (V ++ [(n, Value.slice A2 n.ps.length c2)]) ∧ (V ++ [(n, Value.slice A2 n.ps.length c2)]).map (·.1) = rot l b0 (k + 1) from ⟨fun p hp => (List.mem_append.1 hp).elim (HV.out.1 p) fun h => by rw [List.mem_singleton.1 h]; exact ⟨A2, c2, rfl, hvn⟩, by rw [List.map_append, HV.out.2, rot_next, ← hn]; rfl⟩)
              have HD2 := hide (show ∀ i j, i < j → j < k + 1 → idA l i ≠ idA l j from fun i j h1 h2 => by
                by_cases e : j = k
                · rw [e]; exact HQ.out i (by omega)
                · exact HD.out i j h1 (by omega))
              clear hr0 hrt hn hvn HD HV HQ
              go_wp2_with (at_builtin; go_loud (refine Dq.wpList_pushN rfl (.tmp 60) (.tmp 71) rfl w3.heap.size w3 _ _ V n _ rfl rfl rfl HO.out rfl hlen1 HB.out HB.out.size ?_; intro v6 w6 hown6 hb6; have HO6 := hide hown6; have HB6 := hide hb6; clear hown6 hb6))
              exact ⟨⟨k + 1, _, V ++ [(n, .slice A2 n.ps.length c2)], rfl, by go_num, by omega, by rw [List.length_append, List.length_cons, List.length_nil]; omega, by show Hid _; exact HO6, by show Hid _; exact HV2, by show Hid _; exact HD2, by show Hid _; exact HB6⟩, by simp [intOf]; omega⟩
        · obtain rfl : N = k := by omega
          have hlow := HB3.out.trans (HB.out.mono HB3.out.size)
          have hrun : run (rot l b0 N) = run l := by rw [HN.out]; exact rot_run (fun i j h1 h2 => HD.out i j h1 (by rw [HN.out]; exact h2))
          have hfin : Fine (rot l b0 N) := by rw [HN.out]; exact rot_fine HFl.out.1
          obtain ⟨A7, c7, rfl, hnd7⟩ := nds_own HO.out (HV.out.1.keep hlow)
          rw [HV.out.2] at hnd7
          rw [hVk]
          have hbo := both_any l A c wr wr (rebase HC.out hlow) (Below.refl _ _) (Hs.out.keep hlow) HFl.out.1 (by have := HFl.out.2; omega)
          rw [← HN.out] at hbo
          have HBo := hide hbo
          have HSm := hide (run_sm HFl.out.1 (by have := HFl.out.2; omega))
          have HLn := hide (Nat.le_trans (run_keeps l).2.2 HFl.out.2)
          have HLow := hide hlow
          have HRun := hide hrun
          have HFin := hide hfin
          have HNd := hide hnd7
          clear hlow hrun hfin hnd7 hbo HO HV HD HB
          go_wp2_with fail
          refine HBo.out.mono ?_
          rintro y w4 ⟨g, r, Sr, rfl, hg4, _, _, hb4⟩
          obtain ⟨D, hD⟩ : ∃ D, D = run l := ⟨_, rfl⟩
          rw [← hD] at hg4 HSm HLn HRun
          have HI := hide hg4.ok.inv
          have HG4 := hide ((gd_base hg4 HLow.out).imp (F' := fun _ => False) fun _ h => h.elim)
          have hbo := both_any (rot l b0 N) A7 c7 w4 w4 (rebase HC.out HG4.out.low) (Below.refl _ _) (HNd.out.keep hb4) HFin.out (by rw [rot_len]; omega)
          rw [HRun.out, rot_len] at hbo
          have HBo2 := hide hbo
          clear hg4 hb4 hD hbo HBo HNd HFin HRun HLow
          go_wp2_with fail
          refine HBo2.out.mono ?_
          rintro y w5 ⟨g2, r2, Sr2, rfl, hg5, _, _, hb5⟩
          have HE5 := hide ((gd_base hg5 HG4.out.low).imp (F' := fun _ => False) fun _ h => h.elim)
          have HG5 := hide (HG4.out.stay HC.out hb5)
          have hco := com2 HC.out HG5.out xa xb HXa.out HXb.out
          obtain ⟨cs, hcs⟩ : ∃ z, z = (common D [xa] [xb]).getD [] := ⟨_, rfl⟩
          obtain ⟨ci, hci⟩ : ∃ z, z = (common D [xa] [xb]).isSome := ⟨_, rfl⟩
          rw [← hcs, ← hci] at hco
          have HCo := hide hco
          have HCs := hide hcs
          have HCi := hide hci
          clear hg5 hb5 hco hcs hci HBo2 HG4
          go_wp2_with fail
          refine HCo.out.mono ?_
          rintro e w6 ⟨rfl, hb6⟩
          have HG6 := hide (HG5.out.stay HC.out hb6)
          have HE6 := hide (HE5.out.stay HC.out hb6)
          have hco := com2 HC.out HE6.out xa xb HXa.out HXb.out
          rw [← HCs.out, ← HCi.out] at hco
          have HCo2 := hide hco
          clear hb6 hco HCo HG5 HE5 HCs HCi
          go_wp2_with fail
          refine HCo2.out.mono ?_
          rintro e w7 ⟨rfl, hb7⟩
          have HG7 := hide (HG6.out.stay HC.out hb7)
          have HE7 := hide (HE6.out.stay HC.out hb7)
          obtain ⟨M, hM⟩ : ∃ M, M = (all D true).length := ⟨_, rfl⟩
          have hlo := gd_log HC.out HG7.out HSm.out
          rw [log_len HI.out, ← hM] at hlo
          have HLo := hide hlo
          have hM14 : M ≤ 14 := by rw [hM]; exact Nat.le_trans (all_len D true) HLn.out
          have HM := hide hM
          have hqs : (cs == cs) = true := by simp
          have hqi : (ci == ci) = true := by simp
          clear hb7 hlo hM HCo2 HG6 HE6
          go_wp2_with fail
          refine HLo.out.mono ?_
          rintro y w8 ⟨A8, c8, rfl, hv8, hb8⟩
          have HV8 := hide (vs_low hv8)
          have HG8 := hide (HG7.out.stay HC.out hb8)
          have HE8 := hide (HE7.out.stay HC.out hb8)
          have hlo := gd_log HC.out HE8.out HSm.out
          rw [log_len HI.out, ← HM.out] at hlo
          have HLo2 := hide hlo
          clear hv8 hb8 hlo HLo HG7 HE7
          go_wp2_with fail
          refine HLo2.out.mono ?_
          rintro y w9 ⟨A9, c9, rfl, hv9, hb9⟩
          have HG9 := hide (HG8.out.stay HC.out hb9)
          have HE9 := hide (HE8.out.stay HC.out hb9)
          have hid := ids_any (log D) (log D) A8 A9 c8 c9 _ _ w9 (vs_keep HV8.out hb9) (vs_low hv9) (by rw [log_len HI.out, ← HM.out]; omega)
          rw [decide_eq_true rfl, log_len HI.out, ← HM.out] at hid
          have HIs := hide hid
          clear hv9 hb9 hid HLo2 HV8 HG8 HE8
          go_wp2_with fail
          refine HIs.out.mono ?_
          rintro y wA ⟨rfl, hbA⟩
          have HGA := hide (HG9.out.stay HC.out hbA)
          have HEA := hide (HE9.out.stay HC.out hbA)
          have HId := hide (HGA.out.ids HC.out)
          clear hbA HIs HG9 HE9
          go_wp2_with fail
          refine HId.out.mono ?_
          rintro y wB ⟨vB, rfl, hownB, hbB⟩
          obtain ⟨AB, cB, rfl, hvB, _⟩ := own_vs hownB
          rw [← HM.out]
          have HGB := hide (HGA.out.stay HC.out hbB)
          have HEB := hide (HEA.out.stay HC.out hbB)
          have HOr := hide (show M ≤ 12 ∨ M ≤ 14 ∧ (all D true).Nodup from .inr ⟨hM14, up_once2 (all_up2 HI.out true)⟩)
          have hra := gd_ranks14 HC.out HGB.out (all D true) _ cB _ hvB (by rw [← HM.out]; exact HOr.out) (fun z hz => all_short HSm.out hz)
          rw [← HM.out] at hra
          have HRa := hide hra
          clear hownB hvB hbB hra HId HGA HEA
          go_wp2_with fail
          refine HRa.out.mono ?_
          rintro y wC ⟨vC, rfl, hownC, hbC⟩
          obtain ⟨AC, cC, rfl, hvC, _⟩ := own_vs hownC
          rw [ranks_whole HI.out, ← HM.out]
          have HVC := hide hvC
          have HGC := hide (HGB.out.stay HC.out hbC)
          have HEC := hide (HEB.out.stay HC.out hbC)
          have HId2 := hide (HEC.out.ids HC.out)
          clear hownC hvC hbC HRa HGB HEB
          go_wp2_with fail
          refine HId2.out.mono ?_
          rintro y wD ⟨vD, rfl, hownD, hbD⟩
          obtain ⟨AD, cD, rfl, hvD, _⟩ := own_vs hownD
          rw [← HM.out]
          have HVD := hide (vs_low (vs_keep HVC.out hbD))
          have HGD := hide (HGC.out.stay HC.out hbD)
          have HED := hide (HEC.out.stay HC.out hbD)
          have hra := gd_ranks14 HC.out HED.out (all D true) _ cD _ hvD (by rw [← HM.out]; exact HOr.out) (fun z hz => all_short HSm.out hz)
          rw [← HM.out] at hra
          have HRa2 := hide hra
          clear hownD hvD hbD hra HId2 HVC HGC HEC
          go_wp2_with fail
          refine HRa2.out.mono ?_
          rintro y wE ⟨vE, rfl, hownE, hbE⟩
          obtain ⟨AE, cE, rfl, hvE, _⟩ := own_vs hownE
          rw [ranks_whole HI.out, ← HM.out]
          have HGE := hide (HGD.out.stay HC.out hbE)
          have hid := ids_any (ranks D (all D true)) (ranks D (all D true)) AC AE cC cE _ _ wE (vs_keep HVD.out hbE) hvE (by rw [ranks_whole HI.out, ← HM.out]; omega)
          rw [decide_eq_true rfl, ranks_whole HI.out, ← HM.out] at hid
          have HIs2 := hide hid
          clear hownE hvE hbE hid HRa2 HVD HGD HED
          go_wp2_with fail
          refine HIs2.out.mono ?_
          rintro y wF ⟨rfl, hbF⟩
          have HGF := hide (HGE.out.stay HC.out hbF)
          clear hbF HIs2 HGE
          go_wp2
          go_ret
          exact ⟨by simp, HGF.out.low⟩
end Go.Proofs.Ytplmcpdlommmaaa.Oq
