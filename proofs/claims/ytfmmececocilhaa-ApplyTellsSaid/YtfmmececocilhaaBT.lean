/-
  The reference's Right of hunks.
-/
import Derived.Test.YtfmmececocilhaaBJ
import Derived.Test.YtfmmececocilhaaHX
namespace Go.Proofs.Ytfmmececocilhaa.Ap
open Go Go.RowKit Kt Lw Li Df Hu

def dsum : List Hk → Int
  | [] => 0
  | h :: t => (h.bn - h.an) + dsum t
theorem dsum_append : ∀ l r : List Hk, dsum (l ++ r) = dsum l + dsum r
  | [], r => by simp [dsum]
  | h :: l, r => by rw [List.cons_append, dsum, dsum, dsum_append l r]; omega
theorem dsum_snoc {L : List Hk} {j : Nat} {h : Hk} (hj : L[j]? = some h) : dsum (L.take (j + 1)) = dsum (L.take j) + (h.bn - h.an) := by
  rw [List.take_add_one, hj, dsum_append]; simp [dsum]
theorem dsum_le (L : List Hk) (hb : ∀ h ∈ L, Sm h) : ∀ k, k ≤ L.length → -4294967296 * (k : Int) ≤ dsum (L.take k) ∧ dsum (L.take k) ≤ 4294967296 * (k : Int)
  | 0, _ => by simp [dsum]
  | k + 1, hk => by
    have ih := dsum_le L hb k (by omega)
    have h := hb L[k] (List.getElem_mem _)
    unfold Sm at h
    rw [dsum_snoc (List.getElem?_eq_getElem (by omega))]
    omega
set_option maxRecDepth 100000 in
set_option maxHeartbeats 4000000 in
theorem refRight7_any (L : List Hk) (A : Option Addr) (c : Nat) (w : World) (hs : Hks w A c L) (hn : L.length ≤ 1000) (hb : ∀ h ∈ L, Sm h) :
    Calls Try.prog 16 #[.slice A L.length c] w fun y w' => y = .returned (.bool (okL 0 0 L)) ∧ Below w.heap.size w w' := by
  have Hs := hide hs
  have Hsm := hide hb
  obtain ⟨N, hN⟩ : ∃ N, N = L.length := ⟨_, rfl⟩
  rw [← hN] at hn ⊢
  have HN := hide hN
  clear hs hN hb
  go_enter Try.func16, Try.ntmps16
  go_wp2
  go_loopw [3] (fun i wr => ∃ (k : Nat) (e : Int), k ≤ N ∧ i = .int .i64 k ∧ Hid (okL 0 0 L = okL e (dsum (L.take k)) (L.drop k)) ∧ Hid (k = 0 ∧ e = 0 ∨ ∃ p, 0 < k ∧ L[k - 1]? = some p ∧ e = p.a + p.an) ∧ Below w.heap.size w wr) (fun i _ => N - (intOf i).toNat)
  case atStart => exact ⟨0, 0, Nat.zero_le _, rfl, hide rfl, hide (.inl ⟨rfl, rfl⟩), Below.refl _ _⟩
  case round =>
    obtain ⟨k, e, hk, rfl, HO, HE, hb⟩ := hrel
    obtain ⟨m, hm0⟩ : ∃ m, m = dsum (L.take k) := ⟨_, rfl⟩
    rw [← hm0] at HO
    have Hm0 := hide hm0
    have hm : -4294967296 * (k : Int) ≤ m ∧ m ≤ 4294967296 * (k : Int) := by
      rw [hm0]
      exact dsum_le L Hsm.out k (by have := HN.out; omega)
    clear hm0
    have Hb := hide hb
    clear hb
    by_cases hlt : k < N
    · obtain ⟨b, o, h, A', c', rfl, hke, ⟨c0, c1, c2, c3, c4⟩, hv⟩ := Hs.out.at Hb.out (k := k) (by have := HN.out; omega)
      have hsm := Hsm.out h (List.mem_of_getElem? hke)
      have Hd := hide (show okL 0 0 L = okL e m (h :: L.drop (k + 1)) by rw [HO.out, drop_cons hke])
      have Hke := hide hke
      have HR := hide (fun w' (hb : Below w.heap.size w w') => refRight_any h.a h.an h.b h.bn h.lines A' c' _ w' (Lw.Vs.below hv hb) (by have := hsm.2.2.2.2; omega))
      have hte : hright ⟨h.a, h.an, h.b, h.bn, h.lines⟩ = hright h := rfl
      rw [hte] at HR
      have Hno := hide (fun hn => okL_no (t := L.drop (k + 1)) (e := e) (m := m) (h := h) hn)
      have Hyes := hide (fun hn => okL_yes (t := L.drop (k + 1)) (e := e) (m := m) (h := h) hn)
      have Hrf := hide (fun hr : hright h = true => (right_facts hr).2.2.1)
      unfold Sm at hsm
      generalize hright h = R at *
      obtain ⟨za, hza⟩ : ∃ z, z = h.a := ⟨_, rfl⟩
      obtain ⟨zan, hzan⟩ : ∃ z, z = h.an := ⟨_, rfl⟩
      obtain ⟨zb, hzb⟩ : ∃ z, z = h.b := ⟨_, rfl⟩
      obtain ⟨zbn, hzbn⟩ : ∃ z, z = h.bn := ⟨_, rfl⟩
      obtain ⟨nh, hnh⟩ : ∃ z, z = h.lines.length := ⟨_, rfl⟩
      rw [← hza] at c0 HR hsm Hno Hyes Hrf
      rw [← hzan] at c1 HR hsm Hyes
      rw [← hzb] at c2 HR hsm Hno Hyes
      rw [← hzbn] at c3 HR hsm Hyes
      rw [← hnh] at c4 HR hsm
      obtain ⟨⟨s1, s2⟩, ⟨s3, s4⟩, ⟨s5, s6⟩, ⟨s7, s8⟩, s9⟩ := hsm
      have HH := hide (show za = h.a ∧ zan = h.an from ⟨hza, hzan⟩)
      have Hbn := hide hzbn
      have Han := hide hzan
      clear hte hke hv hza hzan hzb hzbn hnh HO
      have Hlt := hide hlt
      go_wp2_with fail
      refine (HR.out wr Hb.out).mono ?_
      rintro y w2 ⟨rfl, hb2⟩
      have c0' := cell_keep (hb2) c0
      have c1' := cell_keep (hb2) c1
      have c2' := cell_keep (hb2) c2
      have Hb2 := hide (Hb.out.trans (hb2.mono Hb.out.size))
      clear c0 c1 c2 c3 c4 HR hb2 Hb
      cases R with
      | false =>
        have HF := hide (show okL 0 0 L = false by rw [Hd.out]; exact Hno.out fun h => by cases h.1)
        go_wp2
        go_ret
        exact ⟨by rw [HF.out]; rfl, Hb2.out⟩
      | true =>
      have hr0 := Hrf.out rfl
      clear Hrf
      obtain ⟨b2, hb2e⟩ : ∃ b2, b2 = za + m := ⟨_, rfl⟩
      have Hcells := hide (⟨c0', c2'⟩ : w2.cell? ⟨b, o + k * 5, none⟩ = some (.int .i64 za) ∧ w2.cell? ⟨b, o + k * 5 + 2, none⟩ = some (.int .i64 zb))
      go_wp2
      go_loopw [5, 6] (fun v i wr => ∃ (j : Nat) (s : Int), j ≤ k ∧ i = .int .i64 j ∧ v = .int .i64 (za + s) ∧ (-4294967296 * (j : Int) ≤ s ∧ s ≤ 4294967296 * (j : Int)) ∧ Hid (s = dsum (L.take j)) ∧ Hid (Below w2.heap.size w2 wr)) (fun _ i _ => k - (intOf i).toNat)
      case atStart => exact ⟨0, 0, Nat.zero_le _, rfl, by rw [Int.add_zero], by omega, hide rfl, hide (Below.refl _ _)⟩
      case round =>
        obtain ⟨j, s, hj, rfl, rfl, hs, Hs', Hbr⟩ := hrel
        by_cases hlj : j < k
        · obtain ⟨b', o', g, A2, c2'', hA, hkg, ⟨_, d1, _, d3, _⟩, _⟩ := Hs.out.at (Hb2.out.trans (Hbr.out.mono Hb2.out.size)) (k := j) (by have := HN.out; omega)
          injection hA with hA
          injection hA with hA1 hA2
          subst hA1 hA2
          have hsg := Hsm.out g (List.mem_of_getElem? hkg)
          unfold Sm at hsg
          have Hds := hide (dsum_snoc hkg)
          obtain ⟨ga, hga⟩ : ∃ z, z = g.an := ⟨_, rfl⟩
          obtain ⟨gb, hgb⟩ : ∃ z, z = g.bn := ⟨_, rfl⟩
          rw [← hga] at d1 hsg Hds
          rw [← hgb] at d3 hsg Hds
          obtain ⟨-, ⟨t1, t2⟩, -, ⟨t3, t4⟩, -⟩ := hsg
          have hjN : j < N := by omega
          clear hkg hga hgb c0' c1' c2'
          go_wp2_with fail
          go_quiet (fail)
          go_wp2
          exact ⟨⟨j + 1, s + (gb - ga), by omega, by go_num, congrArg (Value.int .i64) (by omega), by omega, hide (by rw [Hds.out, ← Hs'.out]), hide (below_drewN Hbr.out _)⟩, by simp [intOf]; omega⟩
        · obtain rfl : j = k := by omega
          obtain rfl : s = m := by rw [Hs'.out, Hm0.out]
          have Hb3 := hide (Hb2.out.trans (Hbr.out.mono Hb2.out.size))
          have e0 := cell_keep Hbr.out Hcells.out.1
          have e2 := cell_keep Hbr.out Hcells.out.2
          clear Hbr c0' c1' c2' Hcells
          by_cases hm2 : zb - za = s
          · have q1 : (zb == za + s) = true := by rw [beq_iff_eq]; omega
            have q2 : (zb != za + s) = false := by rw [bne_eq_false_iff_eq]; omega
            rcases Nat.eq_zero_or_pos j with hk0 | hk0
            · subst hk0
              have he : e ≤ za := by
                rcases HE.out with ⟨_, h⟩ | ⟨p, h, _⟩
                · omega
                · exact absurd h (Nat.lt_irrefl _)
              have HO' := hide (show okL 0 0 L = okL (za + zan) (dsum (L.take (0 + 1))) (L.drop (0 + 1)) by
                rw [Hd.out, Hyes.out ⟨by trivial, hm2, he⟩, dsum_snoc Hke.out, ← Hs'.out, HH.out.2, Hbn.out])
              have HE' := hide (show (0 + 1 = 0 ∧ za + zan = 0 ∨ ∃ p, 0 < 0 + 1 ∧ L[0 + 1 - 1]? = some p ∧ za + zan = p.a + p.an) from .inr ⟨h, by omega, Hke.out, by rw [HH.out.1, HH.out.2]⟩)
              clear he hm2
              go_wp2_with fail
              go_quiet (fail)
              go_wp2
              exact ⟨⟨0 + 1, za + zan, by omega, by go_num, HO', HE', below_drewN Hb3.out _⟩, by simp [intOf]; omega⟩
            · obtain ⟨p, hp, he⟩ : ∃ p, L[j - 1]? = some p ∧ e = p.a + p.an := by
                rcases HE.out with ⟨h, _⟩ | ⟨p, _, h1, h2⟩
                · omega
                · exact ⟨p, h1, h2⟩
              obtain ⟨b', o', p', A2, c2'', hA, hke', ⟨d0, d1, _, _, _⟩, _⟩ := Hs.out.at Hb3.out (k := j - 1) (by have := HN.out; omega)
              injection hA with hA
              injection hA with hA1 hA2
              subst hA1 hA2
              rw [hp] at hke'
              injection hke' with hpe
              subst hpe
              have hsp := Hsm.out p (List.mem_of_getElem? hp)
              unfold Sm at hsp
              obtain ⟨pa, hpa⟩ : ∃ z, z = p.a := ⟨_, rfl⟩
              obtain ⟨pan, hpan⟩ : ∃ z, z = p.an := ⟨_, rfl⟩
              rw [← hpa] at d0 hsp he
              rw [← hpan] at d1 hsp he
              obtain ⟨⟨t1, t2⟩, ⟨t3, t4⟩, -⟩ := hsp
              obtain ⟨q, hq⟩ : ∃ q, q = j - 1 := ⟨_, rfl⟩
              have hwq : IntKind.i64.wrap ((j : Int) - 1) = (q : Int) := by rw [IntWalk.i64_in _ (by omega)]; omega
              rw [← hq] at d0 d1
              have hkpos : decide ((0 : Int) < (j : Int)) = true := decide_eq_true (by omega)
              have hqN : q < N := by omega
              have He := hide he
              clear hp hpa hpan he hq
              by_cases hl : za < pa + pan
              · have d5 : decide (za < pa + pan) = true := decide_eq_true hl
                have HF := hide (show okL 0 0 L = false by rw [Hd.out]; exact Hno.out fun h => by have := h.2.2; have := He.out; omega)
                go_wp2_with fail
                go_quiet (fail)
                go_wp2
                go_ret
                exact ⟨by rw [HF.out]; rfl, below_drewN Hb3.out _⟩
              · have d5 : decide (za < pa + pan) = false := decide_eq_false hl
                have he : e ≤ za := by have := He.out; omega
                have HO' := hide (show okL 0 0 L = okL (za + zan) (dsum (L.take (j + 1))) (L.drop (j + 1)) by
                  rw [Hd.out, Hyes.out ⟨by trivial, hm2, he⟩, dsum_snoc Hke.out, ← Hs'.out, HH.out.2, Hbn.out])
                have HE' := hide (show (j + 1 = 0 ∧ za + zan = 0 ∨ ∃ p, 0 < j + 1 ∧ L[j + 1 - 1]? = some p ∧ za + zan = p.a + p.an) from .inr ⟨h, by omega, Hke.out, by rw [HH.out.1, HH.out.2]⟩)
                clear he hm2 hl
                go_wp2_with fail
                go_quiet (fail)
                go_wp2
                exact ⟨⟨j + 1, za + zan, by omega, by go_num, HO', HE', below_drewN Hb3.out _⟩, by simp [intOf]; omega⟩
          · have q1 : (zb == za + s) = false := by rw [beq_eq_false_iff_ne]; omega
            have q2 : (zb != za + s) = true := by rw [bne_iff_ne]; omega
            have HF := hide (show okL 0 0 L = false by rw [Hd.out]; exact Hno.out fun h => hm2 h.2.1)
            clear hm2
            go_wp2_with fail
            go_quiet (fail)
            go_wp2
            go_ret
            exact ⟨by rw [HF.out]; rfl, below_drewN Hb3.out _⟩
    · obtain rfl : k = N := by omega
      have HF := hide (show okL 0 0 L = true by rw [HO.out, HN.out, List.drop_length]; rfl)
      go_wp2
      go_ret
      exact ⟨by rw [HF.out]; rfl, Hb.out⟩
end Go.Proofs.Ytfmmececocilhaa.Ap
