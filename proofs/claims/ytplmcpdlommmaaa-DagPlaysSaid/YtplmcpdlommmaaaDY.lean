/-
  The document's graph in memory: Heads.
-/
import Derived.Test.YtplmcpdlommmaaaDV
import Derived.BigQuiet
namespace Go.Proofs.Ytplmcpdlommmaaa.Oq
open Go Go.RowKit Kt Kg Lw Tr Dq

/-- does one of these stand on it? -/
def hdB (id : Bs) (L : List Nd) : Bool := L.any fun m => m.on && decide (id ∈ m.ps)
def hdL (D L : List Nd) : List Bs := (L.filter fun n => n.on && !hdB n.id D).map Nd.id
theorem heads_hd (D : List Nd) : heads D = hdL D D := by
  unfold heads hdL hdB
  simp only [List.contains_eq_mem]
theorem hdL_next {D : List Nd} {i : Nat} {n : Nd} (h : D[i]? = some n) : hdL D (D.take (i + 1)) = if n.on && !hdB n.id D then hdL D (D.take i) ++ [n.id] else hdL D (D.take i) := by
  rw [List.take_add_one, h]
  unfold hdL
  rw [List.filter_append, List.map_append]
  cases e : (n.on && !hdB n.id D) <;> simp [e]
theorem hdB_next {D : List Nd} {k : Nat} {m : Nd} (id : Bs) (h : D[k]? = some m) : hdB id (D.take (k + 1)) = (hdB id (D.take k) || (m.on && decide (id ∈ m.ps))) := by
  rw [List.take_add_one, h]
  unfold hdB
  rw [List.any_append]
  simp
theorem mem_next {l : List Bs} {j : Nat} {p : Bs} (id : Bs) (h : l[j]? = some p) : decide (id ∈ l.take (j + 1)) = (decide (id ∈ l.take j) || decide (p = id)) := by
  rw [List.take_add_one, h, Bool.eq_iff_iff, Bool.or_eq_true, decide_eq_true_iff, decide_eq_true_iff, decide_eq_true_iff, List.mem_append]
  refine or_congr Iff.rfl ⟨fun k => ?_, fun k => ?_⟩
  · exact (List.mem_singleton.1 k).symm
  · rw [k]; exact List.mem_cons_self
set_option maxRecDepth 100000 in
set_option maxHeartbeats 8000000 in
theorem rheads_any {w : World} {S : Nat → Prop} {g : Nat} {D : List Nd} (h : RdIn w S g D) (hw : Fw D) :
    Calls Try.prog 28 #[pt g] w fun y w' => ∃ v, y = .returned v ∧ OwT w' w.heap.size tId v (heads D) ∧ Below w.heap.size w w' := by
  obtain ⟨Ag, cg, k0, hr⟩ := h.rd
  have HRd := hide hr
  have Hw := hide hw
  obtain ⟨N, hN⟩ : ∃ N, N = D.length := ⟨_, rfl⟩
  rw [← hN] at k0
  have hN40 : N ≤ 40 := by rw [hN]; exact hw.len
  have HN := hide hN
  have HK0 := hide (show ∀ W, Below w.heap.size w W → W.cell? ⟨g, 0, none⟩ = some (.slice Ag N cg) from fun W hW => (World.cell?_of_block (a := ⟨g, 0, none⟩) (hW.block g (World.block_lt_of_cell? _ _ k0))).trans k0)
  clear h hr hw hN
  go_enter Try.func28, Try.ntmps28
  go_wp2
  clear k0
  go_loopw [3, 4] (fun ov iv wr => ∃ (i : Nat) (v : Value), v = ov ∧ iv = .int .i64 i ∧ i ≤ N ∧ Hid (OwT wr w.heap.size tId v (hdL D (D.take i))) ∧ Hid (Below w.heap.size w wr)) (fun _ iv _ => N - (intOf iv).toNat)
  case atStart => exact ⟨0, _, rfl, rfl, Nat.zero_le _, by show Hid _; exact hide (OwT.nil _ _ _), by show Hid _; exact hide (Below.refl _ _)⟩
  case round =>
    obtain ⟨i, v, rfl, rfl, hi, HO, HB⟩ := hrel
    have k0 := HK0.out wr HB.out
    by_cases hlt : i < N
    · obtain ⟨n, hn⟩ : ∃ z, D[i]? = some z := ⟨_, List.getElem?_eq_getElem (by have := HN.out; omega)⟩
      obtain ⟨b, _, _, rfl, k1, _, k3, _⟩ := HRd.out i n hn
      have HKi := hide (show ∀ W, Below w.heap.size w W → W.cell? ⟨b, i * 3, none⟩ = some (.string ⟨n.id.toArray⟩) from fun W hW =>
        (World.cell?_of_block (a := ⟨b, i * 3, none⟩) (hW.block b (World.block_lt_of_cell? _ _ k1))).trans k1)
      have k3' := (World.cell?_of_block (a := ⟨b, i * 3 + 2, none⟩) (HB.out.block b (World.block_lt_of_cell? _ _ k1))).trans k3
      have HNx := hide (hdL_next hn)
      have hlen1 : (hdL D (D.take i)).length + 1 ≤ 1000000000 := by
        unfold hdL
        rw [List.length_map]
        have h1 := List.length_filter_le (fun n : Nd => n.on && !hdB n.id D) (D.take i)
        rw [List.length_take] at h1
        have := Hw.out.len
        omega
      obtain ⟨id, hid⟩ : ∃ z, z = n.id := ⟨_, rfl⟩
      rw [← hid] at HKi HNx
      have HLen := hide hlen1
      have HF0 := hide (show n.on = (n.on && !hdB id (D.take 0)) from by simp [hdB])
      obtain ⟨on, hon⟩ : ∃ z, z = n.on := ⟨_, rfl⟩
      rw [← hon] at k3' HNx HF0
      clear hn k1 k3 hlen1 hid hon
      go_wp2
      clear k0 k3'
      go_loopw [5, 6] (fun hv kv wz => ∃ (k : Nat) (f : Bool), hv = .bool f ∧ kv = .int .i64 k ∧ k ≤ N ∧ Hid (f = (on && !hdB id (D.take k))) ∧ Hid (Below w.heap.size w wz) ∧ Hid (OwT wz w.heap.size tId v (hdL D (D.take i)))) (fun _ kv _ => N - (intOf kv).toNat)
      case atStart => exact ⟨0, on, rfl, rfl, Nat.zero_le _, by show Hid _; exact HF0, by show Hid _; exact HB, by show Hid _; exact HO⟩
      case round =>
        clear HO HB HF0
        obtain ⟨k, f, rfl, rfl, hk, HF, HB, HO⟩ := hrel
        have k0 := HK0.out wr HB.out
        by_cases hlk : k < N
        · obtain ⟨m, hm⟩ : ∃ z, D[k]? = some z := ⟨_, List.getElem?_eq_getElem (by have := HN.out; omega)⟩
          obtain ⟨b2, A', c', e2, q1, q2, q3, hv⟩ := HRd.out k m hm
          injection e2 with e2
          injection e2 with e2 _ _
          subst e2
          obtain ⟨M, hM⟩ : ∃ z, z = m.ps.length := ⟨_, rfl⟩
          rw [← hM] at q2
          have HKk := hide (show ∀ W, Below w.heap.size w W → W.cell? ⟨b, k * 3 + 1, none⟩ = some (.slice A' M c') ∧ W.cell? ⟨b, k * 3 + 2, none⟩ = some (.bool m.on) from fun W hW =>
            ⟨(World.cell?_of_block (a := ⟨b, k * 3 + 1, none⟩) (hW.block b (World.block_lt_of_cell? _ _ q1))).trans q2, (World.cell?_of_block (a := ⟨b, k * 3 + 2, none⟩) (hW.block b (World.block_lt_of_cell? _ _ q1))).trans q3⟩)
          have hM10 : M ≤ 10 := by rw [hM]; exact Hw.out.many m (List.mem_of_getElem? hm)
          have HVlt := hide (vs_low hv)
          have HM := hide hM
          have HNk := hide (hdB_next id hm)
          clear hm q1 q2 q3 hv hM
          cases hon : m.on with
          | false =>
            have HF1 := hide (show f = (on && !hdB id (D.take (k + 1))) from by rw [HNk.out, hon, Bool.false_and, Bool.or_false]; exact HF.out)
            obtain ⟨k2, k3⟩ := HKk.out wr HB.out
            rw [hon] at k3
            clear HF
            go_wp2
            refine wp_loop_rounds 1 ?_
            rw [rounds_succ]
            by_cases hm0 : 0 < M
            · have d1 : decide ((0 : Int) < (M : Int)) = true := decide_eq_true (by omega)
              go_wp2
              exact ⟨⟨k + 1, f, rfl, by go_num, by omega, by show Hid _; exact HF1, by show Hid _; exact HB, by show Hid _; exact HO⟩, by simp [intOf]; omega⟩
            · have d1 : decide ((0 : Int) < (M : Int)) = false := decide_eq_false (by omega)
              go_wp2
              exact ⟨⟨k + 1, f, rfl, by go_num, by omega, by show Hid _; exact HF1, by show Hid _; exact HB, by show Hid _; exact HO⟩, by simp [intOf]; omega⟩
          | true =>
            have HKt := hide (show ∀ W, Below w.heap.size w W → W.cell? ⟨b, k * 3 + 1, none⟩ = some (.slice A' M c') ∧ W.cell? ⟨b, k * 3 + 2, none⟩ = some (.bool true) from fun W hW => by
              have := HKk.out W hW
              rwa [hon] at this)
            have HNy := hide (show hdB id (D.take (k + 1)) = (hdB id (D.take k) || decide (id ∈ m.ps)) from by rw [HNk.out, hon, Bool.true_and])
            have HG0 := hide (show f = (f && !decide (id ∈ m.ps.take 0)) from by simp)
            clear HKk HNk hon
            go_wp2
            clear k0
            obtain ⟨wo, hwo⟩ : ∃ z, z = wr := ⟨_, rfl⟩
            rw [← hwo]
            subst hwo
            go_loopw [5, 7] (fun hv jv wz => ∃ (j : Nat) (f1 : Bool), hv = .bool f1 ∧ jv = .int .i64 j ∧ j ≤ M ∧ Hid (f1 = (f && !decide (id ∈ m.ps.take j))) ∧ Hid (Below w.heap.size w wz) ∧ Hid (OwT wz w.heap.size tId v (hdL D (D.take i)))) (fun _ jv _ => M - (intOf jv).toNat)
            case atStart => exact ⟨0, f, rfl, rfl, Nat.zero_le _, by show Hid _; exact HG0, by show Hid _; exact HB, by show Hid _; exact HO⟩
            case round =>
              clear HO HB HG0
              obtain ⟨j, f1, rfl, rfl, hj, HG, HB, HO⟩ := hrel
              have k0 := HK0.out wr HB.out
              obtain ⟨k2, k3⟩ := HKt.out wr HB.out
              by_cases hlj : j < M
              · obtain ⟨p, hp⟩ : ∃ z, m.ps[j]? = some z := ⟨_, List.getElem?_eq_getElem (by have := HM.out; omega)⟩
                obtain ⟨pb, po, rfl, hpp, cp0⟩ := vs_at HVlt.out hp
                have cp1 := (World.cell?_of_block (a := ⟨pb, po + j, none⟩) (HB.out.block pb hpp)).trans cp0
                have ci1 := HKi.out wr HB.out
                have HNj := hide (mem_next id hp)
                have d1 : decide ((j : Int) < (M : Int)) = true := decide_eq_true (by omega)
                have hqi : (k : Int) < (N : Int) := by omega
                have hii : (i : Int) < (N : Int) := by omega
                have hjj : (j : Int) < (M : Int) := by omega
                clear hp hpp cp0
                cases f1 with
                | false =>
                  have HG2 := hide (show false = (f && !decide (id ∈ m.ps.take (j + 1))) from by
                    rw [HNj.out]
                    have := HG.out
                    revert this
                    cases f <;> cases decide (id ∈ m.ps.take j) <;> simp)
                  clear HG
                  go_wp2
                  go_quiet (fail)
                  go_wp2
                  exact ⟨⟨j + 1, false, rfl, by go_num, by omega, by show Hid _; exact HG2, by show Hid _; exact hide (below_drewN HB.out nq), by show Hid _; exact hide (HO.out.drewN nq)⟩, by simp [intOf]; omega⟩
                | true =>
                  by_cases hpi : p = id
                  · have HG2 := hide (show false = (f && !decide (id ∈ m.ps.take (j + 1))) from by rw [HNj.out, decide_eq_true hpi]; simp)
                    have hq1 : (p == id) = true := by simp [hpi]
                    have hq2 : (p != id) = false := by simp [hpi]
                    clear HG hpi
                    go_wp2
                    go_quiet (fail)
                    go_wp2
                    exact ⟨⟨j + 1, false, rfl, by go_num, by omega, by show Hid _; exact HG2, by show Hid _; exact hide (below_drewN HB.out nq), by show Hid _; exact hide (HO.out.drewN nq)⟩, by simp [intOf]; omega⟩
                  · have HG2 := hide (show true = (f && !decide (id ∈ m.ps.take (j + 1))) from by rw [HNj.out, decide_eq_false hpi, Bool.or_false]; exact HG.out)
                    have hq1 : (p == id) = false := by simpa using hpi
                    have hq2 : (p != id) = true := by simpa using hpi
                    clear HG hpi
                    go_wp2
                    go_quiet (fail)
                    go_wp2
                    exact ⟨⟨j + 1, true, rfl, by go_num, by omega, by show Hid _; exact HG2, by show Hid _; exact hide (below_drewN HB.out nq), by show Hid _; exact hide (HO.out.drewN nq)⟩, by simp [intOf]; omega⟩
              · obtain rfl : j = M := by omega
                have HF1 := hide (show f1 = (on && !hdB id (D.take (k + 1))) from by
                  have h1 := HG.out
                  rw [HM.out, List.take_length] at h1
                  rw [h1, HNy.out, HF.out]
                  cases on <;> cases hdB id (D.take k) <;> simp)
                have d1 : decide ((j : Int) < (j : Int)) = false := by simp
                go_wp2
                exact ⟨⟨k + 1, f1, rfl, by go_num, by omega, by show Hid _; exact HF1, by show Hid _; exact HB, by show Hid _; exact HO⟩, by simp [intOf]; omega⟩
        · obtain rfl : k = N := by omega
          have HF1 := hide (show f = (on && !hdB id D) from by have := HF.out; rwa [HN.out, List.take_length] at this)
          have ci1 := HKi.out wr HB.out
          have hii : (i : Int) < (k : Int) := by omega
          cases f with
          | false =>
            have HO2 := hide (show OwT wr w.heap.size tId v (hdL D (D.take (i + 1))) from by rw [HNx.out, if_neg (by rw [← HF1.out]; decide)]; exact HO.out)
            go_wp2
            exact ⟨⟨i + 1, v, rfl, by go_num, by omega, by show Hid _; exact HO2, by show Hid _; exact HB⟩, by simp [intOf]; omega⟩
          | true =>
            have HNz := hide (show hdL D (D.take (i + 1)) = hdL D (D.take i) ++ [id] from by rw [HNx.out, if_pos (by rw [← HF1.out])])
            have hlen1 := HLen.out
            go_wp2_with (at_builtin; go_loud (refine wpList_pushI rfl (.tmp 81) (.tmp 90) rfl w.heap.size w _ (hdL D (D.take i)) id _ rfl rfl rfl HO.out hlen1 HB.out HB.out.size ?_; intro v6 w6 hown6 hb6 _ _; have HO6 := hide hown6; have HB6 := hide hb6; clear hown6 hb6))
            exact ⟨⟨i + 1, _, rfl, by go_num, by omega, by show Hid _; rw [HNz.out]; exact HO6, by show Hid _; exact HB6⟩, by simp [intOf]; omega⟩
    · obtain rfl : i = N := by omega
      have HF := hide (show OwT wr w.heap.size tId v (heads D) from by rw [heads_hd]; have := HO.out; rwa [HN.out, List.take_length] at this)
      go_wp2
      go_ret
      exact ⟨v, rfl, HF.out, HB.out⟩
end Go.Proofs.Ytplmcpdlommmaaa.Oq
