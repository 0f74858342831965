/-
  The document's graph in memory: what stays; All.
-/
import Derived.Test.YtplmcpdlommmaaaQDO
import Derived.Test.YtplmcpdlommmaaaQReg
namespace Go.Proofs.Ytplmcpdlommmaaa.Dq
open Go Go.RowKit Kt Kg Lw Tr

section
variable {w w' : World} {S T : Nat → Prop} {g : Nat} {D : List Nd}
theorem RdIn.lt (h : RdIn w S g D) : ∀ k, S k → k < w.heap.size := by obtain ⟨_, _, _, _, _, _, _, _, h⟩ := h; exact h
theorem RdIn.at (h : RdIn w S g D) : S g := by obtain ⟨_, _, _, _, h, _⟩ := h; exact h
theorem RdIn.move (h : RdIn w S g D) (hk : ∀ b, S b → w'.heap[b]? = w.heap[b]?) (hs : w.heap.size ≤ w'.heap.size) : RdIn w' S g D := by
  obtain ⟨v, V, h1, h2, h3, h4, h5, h6, h7⟩ := h
  refine ⟨v, V, h1, (hk g h3).trans h2, h3, ⟨h4.1, ?_⟩, h5, fun p hp => ?_, fun k hk => Nat.lt_of_lt_of_le (h7 k hk) hs⟩
  · rcases h4.2 with z | ⟨b, cap, cur, e, q1, q2, q3⟩
    · exact .inl z
    · exact .inr ⟨b, cap, cur, e, q1, (hk b (h5 b (by rw [e]; rfl))).trans q2, q3⟩
  · obtain ⟨A, c, e, hv⟩ := h6 p hp
    exact ⟨A, c, e, vs_move hv hk⟩
theorem RdIn.below (h : RdIn w S g D) (hb : Below w.heap.size w w') : RdIn w' S g D := h.move (fun b hS => hb.block b (h.lt b hS)) hb.size
theorem RdIn.oth (h : RdIn w S g D) (ho : Oth T w w') (hd : ∀ k, S k → ¬ T k) : RdIn w' S g D := h.move (fun b hS => ho.block b (h.lt b hS) (hd b hS)) ho.size
end
theorem all_next {D : List Nd} {k : Nat} {n : Nd} (b : Bool) (h : D[k]? = some n) : all (D.take (k + 1)) b = all (D.take k) b ++ if n.on = b then [n.id] else [] := by
  rw [List.take_add_one, h]
  exact all_snoc _ b n
set_option maxRecDepth 100000 in
set_option maxHeartbeats 4000000 in
theorem rall_any {w : World} {S : Nat → Prop} {g : Nat} {D : List Nd} (h : RdIn w S g D) (hl : D.length ≤ 1000000) (f : Bool) :
    Calls Try.prog 16 #[pt g, .bool f] w fun e w' => ∃ v, e = .returned v ∧ OwT w' w.heap.size tId v (all D f) ∧ Below w.heap.size w w' := by
  have HD := hide h
  obtain ⟨N, hN⟩ : ∃ N, N = D.length := ⟨_, rfl⟩
  have HN := hide hN
  rw [← hN] at hl
  clear h hN
  go_enter Try.func16, Try.ntmps16
  go_wp2
  go_loopw [5, 6] (fun ov i wr => ∃ (k : Nat) (v : Value), v = ov ∧ i = .int .i64 k ∧ k ≤ N ∧ Hid (OwT wr w.heap.size tId v (all (D.take k) f)) ∧ Hid (Below w.heap.size w wr)) (fun _ i _ => N - (intOf i).toNat)
  case atStart => exact ⟨0, _, rfl, rfl, Nat.zero_le _, by show Hid _; exact hide (OwT.nil _ _ _), by show Hid _; exact hide (Below.refl _ _)⟩
  case round =>
    obtain ⟨k, v, rfl, rfl, hk, HO, HB⟩ := hrel
    obtain ⟨A, c, k0, hr⟩ := (HD.out.below HB.out).rd
    rw [← HN.out] at k0
    have HR := hide hr
    clear hr
    by_cases hlt : k < N
    · obtain ⟨n, hx⟩ : ∃ z, D[k]? = some z := ⟨_, List.getElem?_eq_getElem (by have := HN.out; omega)⟩
      obtain ⟨b, _, _, rfl, k1, _, k2, _⟩ := HR.out k n hx
      have hnx := all_next f hx
      by_cases he : n.on = f
      · have hq : (n.on == f) = true := by simpa using he
        rw [if_pos he] at hnx
        have HNx := hide hnx
        have hlen : (all (D.take k) f).length + 1 ≤ 1000000000 := by
          have := all_len (D.take k) f
          rw [List.length_take] at this
          omega
        clear hx hnx he HR
        go_wp2_with (at_builtin; go_loud (refine wpList_pushI rfl (.tmp 26) (.tmp 35) rfl w.heap.size w _ (all (D.take k) f) n.id _ rfl rfl rfl HO.out hlen HB.out HB.out.size ?_; intro v6 w6 hown6 hb6 _ _; rw [← HNx.out] at hown6; have HO6 := hide hown6; have HB6 := hide hb6; clear hown6 hb6))
        exact ⟨⟨k + 1, _, rfl, by go_num, by omega, by show Hid _; exact HO6, by show Hid _; exact HB6⟩, by simp [intOf]; omega⟩
      · have hq : (n.on == f) = false := by simpa using he
        rw [if_neg he, List.append_nil] at hnx
        have HO2 := hide (show OwT wr w.heap.size tId v (all (D.take (k + 1)) f) by rw [hnx]; exact HO.out)
        clear hx hnx he HR HO
        go_wp2
        exact ⟨⟨k + 1, v, rfl, by go_num, by omega, by show Hid _; exact HO2, by show Hid _; exact HB⟩, by simp [intOf]; omega⟩
    · obtain rfl : k = N := by omega
      have HO2 := hide (show OwT wr w.heap.size tId v (all D f) by have := HO.out; rwa [HN.out, List.take_length] at this)
      clear HR
      go_wp2
      go_ret
      exact ⟨_, rfl, HO2.out, HB.out⟩
end Go.Proofs.Ytplmcpdlommmaaa.Dq
namespace Go.Proofs.Ytplmcpdlommmaaa.Dq
open Go Go.RowKit Kt Kg Lw Tr

set_option maxRecDepth 100000 in
set_option maxHeartbeats 4000000 in
theorem rparents_any {w : World} {S : Nat → Prop} {g : Nat} {D : List Nd} (h : RdIn w S g D) (hl : D.length ≤ 1000000) (id : Bs) :
    Calls Try.prog 26 #[pt g, .string ⟨id.toArray⟩] w fun e w' => ∃ A c, e = .returned (.slice A (parents D id).length c) ∧ Vs w' S A c (texts (parents D id)) ∧ Below w.heap.size w w' := by
  have HH := hide (rhas_any h hl id)
  have HF := hide (rfind_any (show RdIn w.drew S g D from h.below (Below.refl _ w).drew) hl id)
  obtain ⟨A, c, k0, hr⟩ := h.rd
  have HR := hide hr
  clear h hr
  go_enter Try.func26, Try.ntmps26
  go_wp2_with fail
  refine HH.out.mono ?_
  rintro e w1 ⟨rfl, rfl⟩
  rcases fnd_get (D := D) (id := id) with ⟨i, n, e1, e2, e3, e4, e5⟩ | ⟨e1, e2⟩
  · obtain ⟨b, A', c', rfl, _, k1, _, hv⟩ := HR.out i n e2
    have hh : has D id = n.on := by rw [has_get, e4]
    have HP := hide (show parents D id = if n.on then n.ps else [] by unfold parents; rw [e4])
    rw [hh]
    rw [e1] at HF
    obtain ⟨N, hN⟩ : ∃ N, N = D.length := ⟨_, rfl⟩
    rw [← hN] at k0 e5
    have HV := hide hv
    obtain ⟨M, hM⟩ : ∃ N, N = n.ps.length := ⟨_, rfl⟩
    rw [← hM] at k1
    have HM := hide hM
    clear e1 e2 e3 e4 hh hN HR HH hv hM
    cases hon : n.on with
    | false =>
      have HP2 := hide (show parents D id = [] by rw [HP.out, if_neg (by rw [hon]; decide)])
      clear hon HP
      go_wp2
      go_ret
      exact ⟨none, 0, by rw [HP2.out]; rfl, by rw [HP2.out]; exact ⟨Nat.zero_le _, fun h => by simp [texts] at h⟩, Below.refl _ _⟩
    | true =>
      have HP2 := hide (show parents D id = n.ps by rw [HP.out, if_pos hon])
      have hc := And.intro k0 k1
      clear hon HP k0 k1
      go_wp2
      refine Rg.wp_region_ord (fun w' => w'.cell? ⟨g, 0, none⟩ = some (.slice (some ⟨b, 0, none⟩) N c) ∧ w'.cell? ⟨b, i * 3 + 1, none⟩ = some (.slice A' M c')) [(0, true), (1, true), (2, true), (3, true), (4, true), (5, true), (6, false), (7, true), (8, true), (9, true), (10, true)] (by kernel_rfl) (by kernel_rfl) ?_
      simp only [Rg.pick, List.map_cons, List.map_nil, List.getD_cons_zero, List.getD_cons_succ]
      iterate 6 (refine Rg.ord_quiet (v := ?_) rfl (fun w' hS => ?_) hc ?_; rotate_left; (obtain ⟨s1, s2⟩ := hS; go_simp; with_reducible rfl); simp only [Act.put, List.setIfInBounds_toArray, List.set_cons_succ, List.set_cons_zero])
      refine Rg.ord_loud (by rfl) (fun K hK => ?_)
      go_simp
      refine HF.out.mono ?_
      rintro e w9 ⟨rfl, rfl⟩
      refine hK _ _ (fun _ => hc) ?_
      clear hK K HF
      iterate 4 (refine Rg.ord_quiet (v := ?_) rfl (fun w' hS => ?_) hc ?_; rotate_left; (obtain ⟨s1, s2⟩ := hS; go_simp; with_reducible rfl); simp only [Act.put, List.setIfInBounds_toArray, List.set_cons_succ, List.set_cons_zero])
      refine Rg.ord_nil ?_
      go_wp2
      go_ret
      exact ⟨A', c', by rw [HP2.out, ← HM.out]; rfl, by rw [HP2.out]; exact HV.out, (Below.refl _ _).drew⟩
  · have hh : has D id = false := by rw [has_get, e2]
    have HP := hide (show parents D id = [] from parents_not hh)
    rw [hh]
    clear e1 e2 hh HF HR HH
    go_wp2
    go_ret
    exact ⟨none, 0, by rw [HP.out]; rfl, by rw [HP.out]; exact ⟨Nat.zero_le _, fun h => by simp [texts] at h⟩, Below.refl _ _⟩
end Go.Proofs.Ytplmcpdlommmaaa.Dq
