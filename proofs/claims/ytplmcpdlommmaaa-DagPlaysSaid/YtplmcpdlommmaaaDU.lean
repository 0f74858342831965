/-
  The document's graph in memory: Below; Above.
-/
import Derived.Test.YtplmcpdlommmaaaQDQ
import Derived.Test.YtplmcpdlommmaaaQCA
namespace Go.Proofs.Ytplmcpdlommmaaa.Oq
open Go Go.RowKit Kt Kg Lw Tr Dq

/-- ids that are in, rising -/
def Kn (D : List Nd) (o : List Bs) : Prop := Up o ∧ ∀ x ∈ o, has D x = true
theorem Kn.put {D : List Nd} {o : List Bs} (h : Kn D o) {p : Bs} (hp : has D p = true) : Kn D (putId o p) :=
  ⟨foldPut_up [p] o h.1, fun x hx => (putId_mem.1 hx).elim (fun e => by rw [e]; exact hp) (h.2 x)⟩
theorem Kn.puts {D : List Nd} {l : List Bs} (hl : ∀ x ∈ l, has D x = true) : ∀ {o : List Bs}, Kn D o → Kn D (l.foldl putId o) := by
  induction l with
  | nil => intro o h; exact h
  | cons a l ih => intro o h; exact ih (fun x hx => hl x (List.mem_cons_of_mem _ hx)) (h.put (hl a List.mem_cons_self))
theorem Kn.round {D : List Nd} (hI : Inv D) (l : List Bs) : ∀ {o : List Bs}, Kn D o → Kn D (Dq.round D o l) := by
  induction l with
  | nil => intro o h; exact h
  | cons a l ih => intro o h; exact ih (h.puts fun x hx => (parents_in hI hx).1)
theorem Kn.below {D : List Nd} (hI : Inv D) {b : Bs} (hb : has D b = true) : ∀ t, Kn D (Dq.below t D b)
  | 0 => ⟨List.pairwise_singleton _ _, fun x hx => by rw [List.mem_singleton.1 hx]; exact hb⟩
  | t + 1 => (Kn.below hI hb t).round hI _
theorem Kn.few {D : List Nd} (hI : Inv D) {o : List Bs} (h : Kn D o) : o.length ≤ D.length :=
  Nat.le_trans (len_le (up_once2 h.1) fun x hx => (all_in2 hI x).2 (h.2 x hx)) (all_len D true)
theorem Kn.short {D : List Nd} (hI : Inv D) (hs : ∀ x ∈ all D true, x.length ≤ 100000) {o : List Bs} (h : Kn D o) : ∀ x ∈ o, x.length ≤ 100000 := fun x hx => hs x ((all_in2 hI x).2 (h.2 x hx))
theorem round_next {D : List Nd} {o l : List Bs} {k : Nat} {a : Bs} (h : l[k]? = some a) : Dq.round D o (l.take (k + 1)) = (parents D a).foldl putId (Dq.round D o (l.take k)) := by
  unfold Dq.round
  rw [List.take_add_one, h, List.foldl_append]; rfl
theorem puts_next {o l : List Bs} {k : Nat} {a : Bs} (h : l[k]? = some a) : (l.take (k + 1)).foldl putId o = putId ((l.take k).foldl putId o) a := by
  rw [List.take_add_one, h, List.foldl_append]; rfl
/-- what Below tells -/
def belR (D : List Nd) (b : Bs) : List Bs := if has D b then Dq.below D.length D b else []
set_option maxRecDepth 100000 in
set_option maxHeartbeats 8000000 in
theorem rbelow_any {w : World} {S : Nat → Prop} {g : Nat} {D : List Nd} (h : RdIn w S g D) (hI : Inv D) (hl : D.length ≤ 1000) (hs : ∀ x ∈ all D true, x.length ≤ 100000) (hp : ∀ a, (parents D a).length ≤ 1000) (b : Bs) :
    Calls Try.prog 53 #[pt g, .string ⟨b.toArray⟩] w fun y w' => ∃ v, y = .returned v ∧ OwT w' w.heap.size tId v (belR D b) ∧ Below w.heap.size w w' := by
  have HH := hide (rhas_any h (by omega) b)
  obtain ⟨Ag, cg, k0, _⟩ := h.rd
  have HR := hide h
  have Hs := hide hs
  have Hp := hide hp
  have HI := hide hI
  obtain ⟨N, hN⟩ : ∃ N, N = D.length := ⟨_, rfl⟩
  rw [← hN] at k0 hl
  have HN := hide hN
  have HK0 := hide (show ∀ W, Below w.heap.size w W → W.cell? ⟨g, 0, none⟩ = some (.slice Ag N cg) from fun W hW => (World.cell?_of_block (a := ⟨g, 0, none⟩) (hW.block g (World.block_lt_of_cell? _ _ k0))).trans k0)
  clear h hs hp hI hN k0
  go_enter Try.func53, Try.ntmps53
  go_wp2_with fail
  refine HH.out.mono ?_
  rintro e w1 ⟨rfl, rfl⟩
  cases hh : has D b with
  | false =>
    have HF := hide (show belR D b = [] from by unfold belR; rw [hh]; rfl)
    clear HH hh
    go_wp2
    go_ret
    exact ⟨.slice none 0 0, rfl, by rw [HF.out]; exact OwT.nil _ _ _, Below.refl _ _⟩
  | true =>
    have Hh := hide hh
    have HF := hide (show belR D b = Dq.below N D b from by unfold belR; rw [hh, HN.out]; rfl)
    obtain ⟨w2, hw2⟩ : ∃ z, z = w1.alloc (.cells #[.string ⟨b.toArray⟩] tId) := ⟨_, rfl⟩
    have hb2 : Below w1.heap.size w1 w2 := by rw [hw2]; exact (Below.refl _ w1).alloc (Nat.le_refl _) _
    have HO0 := hide (show OwT w2 w1.heap.size tId (.slice (some ⟨w1.heap.size, 0, none⟩) 1 1) [b] from by
      rw [hw2]
      exact ⟨rfl, .inr ⟨w1.heap.size, 1, _, rfl, Nat.le_refl _, Row.fresh w1 tId #[.string ⟨b.toArray⟩], Nat.le_refl _, by decide, rfl, rfl⟩⟩)
    have HB0 := hide hb2
    have HW2 := hide hw2
    clear HH hh hb2 hw2
    have k0 := HK0.out w1 (Below.refl _ _)
    go_wp2
    rw [← HW2.out]
    clear k0
    go_loopw [6, 7] (fun ov tv wr => ∃ (t : Nat) (v : Value), v = ov ∧ tv = .int .i64 t ∧ t ≤ N ∧ Hid (OwT wr w1.heap.size tId v (Dq.below t D b)) ∧ Hid (Below w1.heap.size w1 wr)) (fun _ tv _ => N - (intOf tv).toNat)
    case atStart => exact ⟨0, _, rfl, rfl, Nat.zero_le _, by show Hid _; exact HO0, by show Hid _; exact HB0⟩
    case round =>
      obtain ⟨t, v, rfl, rfl, ht, HO, HB⟩ := hrel
      have k0 := HK0.out wr HB.out
      by_cases hlt : t < N
      · obtain ⟨Ao, co, rfl, hvo, _⟩ := own_vs HO.out
        have HVo := hide hvo
        obtain ⟨o, ho⟩ : ∃ z, z = Dq.below t D b := ⟨_, rfl⟩
        have HKn := hide (show Kn D o from by rw [ho]; exact Kn.below HI.out Hh.out t)
        have HNext := hide (show Dq.below (t + 1) D b = Dq.round D o o from by rw [ho]; rfl)
        rw [← ho] at HO HVo ⊢
        obtain ⟨m, hm⟩ : ∃ z, z = o.length := ⟨_, rfl⟩
        have hmN : m ≤ N := by rw [hm, HN.out]; exact Kn.few HI.out HKn.out
        rw [← hm] at HO ⊢
        have HM := hide hm
        have HO1 := hide (show OwT wr w1.heap.size tId (.slice Ao m co) (Dq.round D o (o.take 0)) from HO.out)
        clear hvo ho hm
        go_wp2
        clear k0
        obtain ⟨wo, hwo⟩ : ∃ z, z = wr := ⟨_, rfl⟩
        rw [← hwo]
        subst hwo
        go_loopw [6, 9] (fun ov iv wz => ∃ (i : Nat) (v : Value), v = ov ∧ iv = .int .i64 i ∧ i ≤ m ∧ Hid (OwT wz w1.heap.size tId v (Dq.round D o (o.take i))) ∧ Hid (Below wo.heap.size wo wz)) (fun _ iv _ => m - (intOf iv).toNat)
        case atStart => exact ⟨0, _, rfl, rfl, Nat.zero_le _, by show Hid _; exact HO1, by show Hid _; exact hide (Below.refl _ _)⟩
        case round =>
          obtain ⟨i, v, rfl, rfl, hi, HO2, HB2⟩ := hrel
          have HB12 := hide (HB.out.trans (HB2.out.mono HB.out.size))
          by_cases hlm : i < m
          · obtain ⟨a, ha⟩ : ∃ z, o[i]? = some z := ⟨_, List.getElem?_eq_getElem (by have := HM.out; omega)⟩
            obtain ⟨ab, ao, rfl, hpa, ca⟩ := vs_at HVo.out ha
            have ca1 := (World.cell?_of_block (a := ⟨ab, ao + i, none⟩) (HB2.out.block ab hpa)).trans ca
            have HRn := hide (round_next (D := D) (o := o) ha)
            have HPa := hide (rparents_any (HR.out.below HB12.out) (by rw [← HN.out]; omega) a)
            obtain ⟨o1, ho1⟩ : ∃ z, z = Dq.round D o (o.take i) := ⟨_, rfl⟩
            rw [← ho1] at HO2 HRn
            have HK1 := hide (show Kn D o1 from by rw [ho1]; exact HKn.out.round HI.out _)
            have HPk := hide (show ∀ x ∈ parents D a, has D x = true from fun x hx => (parents_in HI.out hx).1)
            clear ha hpa ca ho1
            go_wp2_with fail
            refine HPa.out.mono ?_
            rintro e w3 ⟨Ap, cp, rfl, hvp, hb3⟩
            have HVp := hide (vs_low hvp)
            have HO3 := hide (HO2.out.kept hb3)
            have HB3 := hide (HB2.out.trans (hb3.mono HB2.out.size))
            obtain ⟨L, hL⟩ : ∃ z, z = parents D a := ⟨_, rfl⟩
            rw [← hL] at HVp HRn HPk ⊢
            obtain ⟨q, hq⟩ : ∃ z, z = L.length := ⟨_, rfl⟩
            rw [← hq]
            have HQ := hide hq
            have hq9 : q ≤ 1000 := by rw [hq, hL]; exact Hp.out a
            clear hvp hb3 hL hq ca1 HPa HO2
            go_wp2
            go_loopw [6, 11] (fun ov kv wy => ∃ (k : Nat) (v : Value), v = ov ∧ kv = .int .i64 k ∧ k ≤ q ∧ Hid (OwT wy w1.heap.size tId v ((L.take k).foldl putId o1)) ∧ Hid (Below w3.heap.size w3 wy)) (fun _ kv _ => q - (intOf kv).toNat)
            case atStart => exact ⟨0, _, rfl, rfl, Nat.zero_le _, by show Hid _; exact HO3, by show Hid _; exact hide (Below.refl _ _)⟩
            case round =>
              clear HO3
              obtain ⟨k, v, rfl, rfl, hk, HO4, HB4⟩ := hrel
              have HB14 := hide (HB.out.trans ((HB3.out.trans (HB4.out.mono HB3.out.size)).mono HB.out.size))
              by_cases hlq : k < q
              · obtain ⟨p, hp⟩ : ∃ z, L[k]? = some z := ⟨_, List.getElem?_eq_getElem (by have := HQ.out; omega)⟩
                obtain ⟨pb, po, rfl, hpp, cp0⟩ := vs_at HVp.out hp
                have cp1 := (World.cell?_of_block (a := ⟨pb, po + k, none⟩) (HB4.out.block pb hpp)).trans cp0
                have HKo := hide (show Kn D ((L.take k).foldl putId o1) from HK1.out.puts fun x hx => HPk.out x (List.mem_of_mem_take hx))
                have hpk := HPk.out p (List.mem_of_getElem? hp)
                obtain ⟨A4, c4, rfl, hv4, _⟩ := own_vs HO4.out
                have HPu := hide (rput_any _ p A4 c4 _ wr (by exact hv4) (by have := Kn.few HI.out HKo.out; have := HN.out; omega) (Hs.out p ((all_in2 HI.out p).2 hpk)) (HKo.out.short HI.out Hs.out))
                have HPn := hide (puts_next (o := o1) hp)
                rw [← HPn.out] at HPu
                clear hp hpp cp0 hpk hv4 HKo
                go_wp2_with fail
                refine HPu.out.mono ?_
                rintro e w5 ⟨v5, rfl, ho5, hb5⟩
                have HO5 := hide (owt_base ho5 HB14.out.size)
                have HB5 := hide (HB4.out.trans (hb5.mono HB4.out.size))
                clear ho5 hb5 HPu cp1
                go_wp2
                exact ⟨⟨k + 1, v5, rfl, by go_num, by omega, by show Hid _; exact HO5, by show Hid _; exact HB5⟩, by simp [intOf]; omega⟩
              · obtain rfl : k = q := by omega
                have HO6 := hide (show OwT wr w1.heap.size tId v (Dq.round D o (o.take (i + 1))) from by rw [HRn.out]; have := HO4.out; rwa [HQ.out, List.take_length] at this)
                have HB6 := hide (HB3.out.trans (HB4.out.mono HB3.out.size))
                go_wp2
                exact ⟨⟨i + 1, v, rfl, by go_num, by omega, by show Hid _; exact HO6, by show Hid _; exact HB6⟩, by simp [intOf]; omega⟩
          · obtain rfl : i = m := by omega
            have HO6 := hide (show OwT wr w1.heap.size tId v (Dq.below (t + 1) D b) from by rw [HNext.out]; have := HO2.out; rwa [HM.out, List.take_length] at this)
            go_wp2
            exact ⟨⟨t + 1, v, rfl, by go_num, by omega, by show Hid _; exact HO6, by show Hid _; exact HB12⟩, by simp [intOf]; omega⟩
      · obtain rfl : t = N := by omega
        go_wp2
        go_ret
        exact ⟨v, rfl, by rw [HF.out]; exact HO.out, HB.out⟩
theorem belR_few {D : List Nd} (hI : Inv D) (b : Bs) : (belR D b).length ≤ D.length := by
  unfold belR
  split
  · exact Kn.few hI (Kn.below hI ‹_› _)
  · exact Nat.zero_le _
theorem above_belR {D : List Nd} (hI : Inv D) (a b : Bs) : above D a b = decide (a ∈ belR D b) := by
  rw [above_below hI]
  unfold belR
  cases has D b
  · simp
  · simp
set_option maxRecDepth 100000 in
set_option maxHeartbeats 4000000 in
theorem rabove_any {w : World} {S : Nat → Prop} {g : Nat} {D : List Nd} (h : RdIn w S g D) (hI : Inv D) (hl : D.length ≤ 1000) (hs : ∀ x ∈ all D true, x.length ≤ 100000) (hp : ∀ a, (parents D a).length ≤ 1000) (a b : Bs) :
    Calls Try.prog 30 #[pt g, .string ⟨a.toArray⟩, .string ⟨b.toArray⟩] w fun y w' => y = .returned (.bool (above D a b)) ∧ Below w.heap.size w w' := by
  have HBe := hide (rbelow_any h hI hl hs hp b)
  have HAb := hide (above_belR hI a b)
  have HFw := hide (belR_few hI b)
  clear h hI hs hp
  go_enter Try.func30, Try.ntmps30
  go_wp2_with fail
  refine HBe.out.mono ?_
  rintro e w1 ⟨v, rfl, ho, hb⟩
  obtain ⟨A, c, rfl, hv, _⟩ := own_vs ho
  have HV := hide hv
  have HB1 := hide hb
  obtain ⟨o, ho'⟩ : ∃ z, z = belR D b := ⟨_, rfl⟩
  rw [← ho'] at HV HAb HFw ⊢
  obtain ⟨N, hN⟩ : ∃ N, N = o.length := ⟨_, rfl⟩
  rw [← hN]
  have hN1 : N ≤ 1000 := by have := HFw.out; omega
  have HN := hide hN
  clear ho hv hb ho' hN HBe
  go_wp2
  go_loopw [8] (fun i wr => ∃ k : Nat, k ≤ N ∧ i = .int .i64 k ∧ Hid (∀ x ∈ o.take k, x ≠ a) ∧ Hid (Below w1.heap.size w1 wr)) (fun i _ => N - (intOf i).toNat)
  case atStart => exact ⟨0, Nat.zero_le _, rfl, by show Hid _; exact hide (fun x hx => by simp at hx), by show Hid _; exact hide (Below.refl _ _)⟩
  case round =>
    obtain ⟨k, hk, rfl, HA, HB⟩ := hrel
    by_cases hlt : k < N
    · obtain ⟨x, hx⟩ : ∃ z, o[k]? = some z := ⟨_, List.getElem?_eq_getElem (by have := HN.out; omega)⟩
      obtain ⟨bb, ob, rfl, hbb, ck⟩ := vs_at HV.out hx
      have hc := (World.cell?_of_block (a := ⟨bb, ob + k, none⟩) (HB.out.block bb hbb)).trans ck
      have HX := hide hx
      clear hx ck hbb
      by_cases hxa : x = a
      · subst hxa
        have HF := hide (show above D x b = true from by rw [HAb.out]; exact decide_eq_true (List.mem_of_getElem? HX.out))
        have hq1 : (x == x) = true := by simp
        go_wp2
        go_ret
        exact ⟨by rw [HF.out]; rfl, HB1.out.trans (HB.out.mono HB1.out.size)⟩
      · have hq1 : (x == a) = false := by simpa using hxa
        have HA2 := hide (show ∀ y ∈ o.take (k + 1), y ≠ a from fun y hy => by
          rw [List.take_add_one, HX.out] at hy
          rcases List.mem_append.1 hy with hy | hy
          · exact HA.out y hy
          · obtain rfl : y = x := by simpa using hy
            exact hxa)
        clear hxa
        go_wp2
        exact ⟨⟨k + 1, by omega, by go_num, by show Hid _; exact HA2, by show Hid _; exact HB⟩, by simp [intOf]; omega⟩
    · obtain rfl : k = N := by omega
      have HF := hide (show above D a b = false from by
        rw [HAb.out]
        refine decide_eq_false fun hm => ?_
        have := HA.out
        rw [HN.out, List.take_length] at this
        exact this a hm rfl)
      go_wp2
      go_ret
      exact ⟨by rw [HF.out]; rfl, HB1.out.trans (HB.out.mono HB1.out.size)⟩
end Go.Proofs.Ytplmcpdlommmaaa.Oq
