/-
  The document's graph in memory: Lacks.
-/
import Derived.Test.YtplmcpdlommmaaaQDQ
import Derived.Test.YtplmcpdlommmaaaQCA
namespace Go.Proofs.Ytplmcpdlommmaaa.Oq
open Go Go.RowKit Kt Kg Lw Tr Dq

theorem fnd_neg {D : List Nd} {p : Bs} : decide (fnd D p < 0) = !(get D p).isSome := by
  rcases fnd_get (D := D) (id := p) with ⟨i, n, e1, _, _, e4, _⟩ | ⟨e1, e2⟩
  · rw [e1, e4]; simp
  · rw [e1, e2]; rfl
theorem lackGo_len (D : List Nd) (l : List Bs) : ∀ o : List Bs, (lackGo D o l).length ≤ o.length + l.length := by
  induction l with
  | nil => intro o; exact Nat.le_refl _
  | cons p l ih =>
    intro o
    show (lackGo D (if (get D p).isSome then o else putId o p) l).length ≤ _
    refine Nat.le_trans (ih _) ?_
    rw [List.length_cons]
    split
    · omega
    · have := putId_len o p; omega
theorem lackUp_next {D : List Nd} {k : Nat} {n : Nd} (h : D[k]? = some n) : lackUp D (D.take (k + 1)) = if n.on then lackUp D (D.take k) else lackGo D (lackUp D (D.take k)) n.ps := by
  rw [List.take_add_one, h]
  exact lackUp_snoc _ _ _
theorem lackGo_next {D : List Nd} {o l : List Bs} {k : Nat} {p : Bs} (h : l[k]? = some p) : lackGo D o (l.take (k + 1)) = if (get D p).isSome then lackGo D o (l.take k) else putId (lackGo D o (l.take k)) p := by
  rw [List.take_add_one, h]
  exact lackGo_snoc _ _ _ _
theorem lackGo_mem {D : List Nd} (l : List Bs) : ∀ (o : List Bs) (x : Bs), x ∈ lackGo D o l → x ∈ o ∨ x ∈ l := by
  induction l with
  | nil => intro o x h; exact .inl h
  | cons p l ih =>
    intro o x h
    have h : x ∈ lackGo D (if (get D p).isSome then o else putId o p) l := h
    rcases ih _ x h with h | h
    · split at h
      · exact .inl h
      · rcases putId_mem.1 h with e | e
        · exact .inr (by rw [e]; exact List.mem_cons_self)
        · exact .inl e
    · exact .inr (List.mem_cons_of_mem _ h)
/-- nodes few and short -/
structure Fw (D : List Nd) : Prop where
  len : D.length ≤ 40
  ids : ∀ n ∈ D, n.id.length ≤ 50
  many : ∀ n ∈ D, n.ps.length ≤ 10
  ps : ∀ n ∈ D, ∀ p ∈ n.ps, p.length ≤ 50
theorem lackUp_short {D : List Nd} (h : Fw D) : ∀ L : List Nd, (∀ n ∈ L, n ∈ D) → (∀ x ∈ lackUp D L, x.length ≤ 50) ∧ (lackUp D L).length ≤ 10 * L.length := by
  intro L hL
  constructor
  · intro x hx
    rcases lackGo_mem _ _ _ hx with k | k
    · cases k
    · obtain ⟨n, hn, hp⟩ := List.mem_flatMap.1 k
      exact h.ps n (hL n (List.mem_filter.1 hn).1) x hp
  · refine Nat.le_trans (lackGo_len D _ _) ?_
    rw [List.length_nil, Nat.zero_add]
    have : ∀ M : List Nd, (∀ n ∈ M, n ∈ D) → (M.flatMap Nd.ps).length ≤ 10 * M.length := by
      intro M hM
      induction M with
      | nil => simp
      | cons n M ih =>
        rw [List.flatMap_cons, List.length_append, List.length_cons]
        have h1 := ih fun m hm => hM m (List.mem_cons_of_mem _ hm)
        have h2 := h.many n (hM n List.mem_cons_self)
        omega
    have h1 := this (L.filter fun n => !n.on) fun n hn => hL n (List.mem_filter.1 hn).1
    have h2 := List.length_filter_le (fun n : Nd => !n.on) L
    omega
set_option maxRecDepth 100000 in
set_option maxHeartbeats 8000000 in
theorem rlacks_any {w : World} {S : Nat → Prop} {g : Nat} {D : List Nd} (h : RdIn w S g D) (hw : Fw D) :
    Calls Try.prog 19 #[pt g] w fun y w' => ∃ v, y = .returned v ∧ OwT w' w.heap.size tId v (lacks D) ∧ Below w.heap.size w w' := by
  obtain ⟨Ag, cg, k0, hr⟩ := h.rd
  have HR := hide h
  have HRd := hide hr
  have Hw := hide hw
  obtain ⟨N, hN⟩ : ∃ N, N = D.length := ⟨_, rfl⟩
  rw [← hN] at k0
  have hN40 : N ≤ 40 := by rw [hN]; exact hw.len
  have HN := hide hN
  have HK0 := hide (show ∀ W, Below w.heap.size w W → W.cell? ⟨g, 0, none⟩ = some (.slice Ag N cg) from fun W hW => (World.cell?_of_block (a := ⟨g, 0, none⟩) (hW.block g (World.block_lt_of_cell? _ _ k0))).trans k0)
  clear h hr hw hN
  go_enter Try.func19, Try.ntmps19
  go_wp2
  clear k0
  go_loopw [3, 4] (fun ov iv wr => ∃ (i : Nat) (v : Value), v = ov ∧ iv = .int .i64 i ∧ i ≤ N ∧ Hid (OwT wr w.heap.size tId v (lackUp D (D.take i))) ∧ Hid (Below w.heap.size w wr)) (fun _ iv _ => N - (intOf iv).toNat)
  case atStart => exact ⟨0, _, rfl, rfl, Nat.zero_le _, by show Hid _; exact hide (OwT.nil _ _ _), by show Hid _; exact hide (Below.refl _ _)⟩
  case round =>
    obtain ⟨i, v, rfl, rfl, hi, HO, HB⟩ := hrel
    have k0 := HK0.out wr HB.out
    by_cases hlt : i < N
    · obtain ⟨n, hn⟩ : ∃ z, D[i]? = some z := ⟨_, List.getElem?_eq_getElem (by have := HN.out; omega)⟩
      obtain ⟨b, A', c', rfl, k1, k2, k3, hv⟩ := HRd.out i n hn
      obtain ⟨m, hm⟩ : ∃ z, z = n.ps.length := ⟨_, rfl⟩
      rw [← hm] at k2
      have HKk := hide (show ∀ W, Below w.heap.size w W → W.cell? ⟨b, i * 3 + 1, none⟩ = some (.slice A' m c') ∧ W.cell? ⟨b, i * 3 + 2, none⟩ = some (.bool n.on) from fun W hW =>
        ⟨(World.cell?_of_block (a := ⟨b, i * 3 + 1, none⟩) (hW.block b (World.block_lt_of_cell? _ _ k1))).trans k2, (World.cell?_of_block (a := ⟨b, i * 3 + 2, none⟩) (hW.block b (World.block_lt_of_cell? _ _ k1))).trans k3⟩)
      have hm10 : m ≤ 10 := by rw [hm]; exact Hw.out.many n (List.mem_of_getElem? hn)
      have HV := hide (vs_move (w' := w) hv fun _ _ => rfl)
      have HVlt := hide (vs_low HV.out)
      have HM := hide hm
      have HNx := hide (lackUp_next hn)
      have HMem := hide (List.mem_of_getElem? hn)
      obtain ⟨o, ho⟩ : ∃ z, z = lackUp D (D.take i) := ⟨_, rfl⟩
      have HOs := hide (show (∀ x ∈ o, x.length ≤ 50) ∧ o.length ≤ 400 from by
        have h1 := lackUp_short Hw.out (D.take i) fun n hn => List.mem_of_mem_take hn
        rw [← ho] at h1
        exact ⟨h1.1, Nat.le_trans h1.2 (by rw [List.length_take]; have := Hw.out.len; omega)⟩)
      rw [← ho] at HO HNx
      clear hn k1 k2 k3 hv hm ho HV
      cases hon : n.on with
      | true =>
        have HO1 := hide (show OwT wr w.heap.size tId v (lackUp D (D.take (i + 1))) from by rw [HNx.out, if_pos hon]; exact HO.out)
        obtain ⟨k2, k3⟩ := HKk.out wr HB.out
        rw [hon] at k3
        clear HO
        go_wp2
        refine wp_loop_rounds 1 ?_
        rw [rounds_succ]
        by_cases hm0 : 0 < m
        · have d1 : decide ((0 : Int) < (m : Int)) = true := decide_eq_true (by omega)
          go_wp2
          exact ⟨⟨i + 1, v, rfl, by go_num, by omega, by show Hid _; exact HO1, by show Hid _; exact HB⟩, by simp [intOf]; omega⟩
        · have d1 : decide ((0 : Int) < (m : Int)) = false := decide_eq_false (by omega)
          go_wp2
          exact ⟨⟨i + 1, v, rfl, by go_num, by omega, by show Hid _; exact HO1, by show Hid _; exact HB⟩, by simp [intOf]; omega⟩
      | false =>
        have HO1 := hide (show OwT wr w.heap.size tId v (lackGo D o (n.ps.take 0)) from HO.out)
        have HNy := hide (show lackUp D (D.take (i + 1)) = lackGo D o n.ps from by rw [HNx.out, if_neg (by rw [hon]; decide)])
        have HKf := hide (show ∀ W, Below w.heap.size w W → W.cell? ⟨b, i * 3 + 1, none⟩ = some (.slice A' m c') ∧ W.cell? ⟨b, i * 3 + 2, none⟩ = some (.bool false) from fun W hW => by
          have := HKk.out W hW
          rwa [hon] at this)
        clear HO HNx HKk hon
        go_wp2
        clear k0
        obtain ⟨wo, hwo⟩ : ∃ z, z = wr := ⟨_, rfl⟩
        rw [← hwo]
        subst hwo
        go_loopw [3, 5] (fun ov kv wz => ∃ (k : Nat) (v : Value), v = ov ∧ kv = .int .i64 k ∧ k ≤ m ∧ Hid (OwT wz w.heap.size tId v (lackGo D o (n.ps.take k))) ∧ Hid (Below w.heap.size w wz)) (fun _ kv _ => m - (intOf kv).toNat)
        case atStart => exact ⟨0, _, rfl, rfl, Nat.zero_le _, by show Hid _; exact HO1, by show Hid _; exact HB⟩
        case round =>
          clear HO1 HB
          obtain ⟨k, v, rfl, rfl, hk, HO, HB⟩ := hrel
          have k0 := HK0.out wr HB.out
          obtain ⟨k2, k3⟩ := HKf.out wr HB.out
          by_cases hlk : k < m
          · obtain ⟨p, hp⟩ : ∃ z, n.ps[k]? = some z := ⟨_, List.getElem?_eq_getElem (by have := HM.out; omega)⟩
            obtain ⟨pb, po, rfl, hpp, cp0⟩ := vs_at HVlt.out hp
            have cp1 := (World.cell?_of_block (a := ⟨pb, po + k, none⟩) (HB.out.block pb hpp)).trans cp0
            have hpl := Hw.out.ps n HMem.out p (List.mem_of_getElem? hp)
            have HFi := hide (rfind_any (HR.out.below HB.out) (by have := Hw.out.len; omega) p)
            have HNp := hide (lackGo_next (D := D) (o := o) hp)
            have hsh : (∀ x ∈ lackGo D o (n.ps.take k), x.length ≤ 50) ∧ (lackGo D o (n.ps.take k)).length ≤ 500 := by
              constructor
              · intro x hx
                rcases lackGo_mem _ _ _ hx with e | e
                · exact HOs.out.1 x e
                · exact Hw.out.ps n HMem.out x (List.mem_of_mem_take e)
              · refine Nat.le_trans (lackGo_len _ _ _) ?_
                rw [List.length_take]
                have := HOs.out.2
                omega
            have HSh := hide hsh
            have HPl := hide hpl
            clear hp hpp cp0 hpl hsh
            have d1 : decide ((k : Int) < (m : Int)) = true := decide_eq_true (by omega)
            go_wp2_with fail
            refine HFi.out.mono ?_
            rintro e w1 ⟨rfl, rfl⟩
            have hfn := fnd_neg (D := D) (p := p)
            obtain ⟨fv, hfv⟩ : ∃ z, z = fnd D p := ⟨_, rfl⟩
            rw [← hfv] at hfn ⊢
            clear HFi hfv
            cases hg : (get D p).isSome with
            | true =>
              rw [hg] at hfn
              have hfn : decide (fv < 0) = false := hfn
              have HO2 := hide (show OwT w1 w.heap.size tId v (lackGo D o (n.ps.take (k + 1))) from by rw [HNp.out, if_pos hg]; exact HO.out)
              clear hg
              go_wp2
              exact ⟨⟨k + 1, v, rfl, by go_num, by omega, by show Hid _; exact HO2, by show Hid _; exact HB⟩, by simp [intOf]; omega⟩
            | false =>
              rw [hg] at hfn
              have hfn : decide (fv < 0) = true := hfn
              have hnp : lackGo D o (n.ps.take (k + 1)) = putId (lackGo D o (n.ps.take k)) p := by rw [HNp.out, if_neg (by rw [hg]; decide)]
              obtain ⟨A4, c4, rfl, hv4, _⟩ := own_vs HO.out
              have hpu := rput_any _ p A4 c4 _ w1 hv4 (by have := HSh.out.2; omega) (by have := HPl.out; omega) (fun y hy => by have := HSh.out.1 y hy; omega)
              rw [← hnp] at hpu
              have HPu := hide hpu
              clear hg hnp hv4 hpu
              go_wp2_with fail
              refine HPu.out.mono ?_
              rintro e w5 ⟨v5, rfl, ho5, hb5⟩
              have HO5 := hide (owt_base ho5 HB.out.size)
              have HB5 := hide (HB.out.trans (hb5.mono HB.out.size))
              clear ho5 hb5 HPu cp1 k0 k2 k3
              go_wp2
              exact ⟨⟨k + 1, v5, rfl, by go_num, by omega, by show Hid _; exact HO5, by show Hid _; exact HB5⟩, by simp [intOf]; omega⟩
          · obtain rfl : k = m := by omega
            have HO2 := hide (show OwT wr w.heap.size tId v (lackUp D (D.take (i + 1))) from by rw [HNy.out]; have := HO.out; rwa [HM.out, List.take_length] at this)
            have d1 : decide ((k : Int) < (k : Int)) = false := by simp
            go_wp2
            exact ⟨⟨i + 1, v, rfl, by go_num, by omega, by show Hid _; exact HO2, by show Hid _; exact HB⟩, by simp [intOf]; omega⟩
    · obtain rfl : i = N := by omega
      have HF := hide (show OwT wr w.heap.size tId v (lacks D) from by rw [lacks_up]; have := HO.out; rwa [HN.out, List.take_length] at this)
      go_wp2
      go_ret
      exact ⟨v, rfl, HF.out, HB.out⟩
end Go.Proofs.Ytplmcpdlommmaaa.Oq
