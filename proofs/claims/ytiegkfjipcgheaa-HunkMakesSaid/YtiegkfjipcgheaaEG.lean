/-
  diff.Turn.
-/
import Derived.Test.YtiegkfjipcgheaaEF
namespace Go.Proofs.Ytiegkfjipcgheaa.Df
open Go Go.RowKit Kt Lw

theorem vs_drew {w : World} {P : Nat → Prop} {A : Option Addr} {c : Nat} {vs : List Value} (h : Vs w P A c vs) : Vs w.drew P A c vs := h
theorem turn_len (a : Ls) : ∀ (L : List Ed) (more : Int), (turn a more L).length = L.length
  | [], _ => rfl
  | e :: L, more => by rw [turn, List.length_cons, turn_len a L, List.length_cons]
set_option maxHeartbeats 1000000 in
set_option maxRecDepth 100000 in
theorem turn_yes (a : Ls) (L : List Ed) (A A' : Option Addr) (c c' : Nat) (P : Nat → Prop) (w : World) (hs : Vs w P A c (texts a)) (hs' : Es w A' c' L) (hn : a.length ≤ 1000000) (hl : L.length ≤ 1000000)
    (hp : (play a 0 L).length ≤ 1000000) (hr : right a.length (-1) L = true) :
    Calls Try.prog 29 #[.slice A a.length c, .slice A' L.length c'] w fun y w' => ∃ v, y = .returned v ∧ OwE w' w.heap.size v (turn a 0 L) ∧ Below w.heap.size w w' := by
  have Hs := hide hs.bound
  have Hr1 := fun w1 (hb : Below w.heap.size w w1) => right_any a.length L A' c' w1 (hs'.keep hb) hl (by omega) (by omega)
  have HR1 := hide Hr1
  have Hs' := hide hs'
  obtain ⟨N, hN⟩ : ∃ N, N = L.length := ⟨_, rfl⟩
  rw [← hN] at hl HR1 ⊢
  have HN := hide hN
  have Hp := hide hp
  have hcap := hs.1
  rw [texts_len] at hcap
  obtain ⟨n, hna⟩ : ∃ n, n = a.length := ⟨_, rfl⟩
  rw [← hna] at hn hcap HR1 ⊢
  rw [← hna] at hr
  have Hr := hide hr
  have HA := hide hna
  clear hs hs' hN hp hr Hr1 hna
  go_enter Try.func29, Try.ntmps29
  go_wp2_with fail
  refine (HR1.out _ (Below.refl _ _)).mono ?_
  rintro y w1 ⟨rfl, hb1⟩
  rw [Hr.out]
  have Hb1 := hide hb1
  clear hb1
  go_wp2
  go_loopw [5, 6, 16] (fun v m i wr => ∃ (k f F : Nat) (last more : Int) (T : List Ed) (v0 : Value), v0 = v ∧ k ≤ N ∧ i = .int .i64 k ∧ m = .int .i64 more ∧ (-1 ≤ last ∧ f ≤ last + 1 ∧ f ≤ n ∧ (F : Int) = f + more ∧ T.length = k ∧ F + (play a f (L.drop k)).length ≤ 1000000) ∧ right n last (L.drop k) = true ∧ T ++ turn a more (L.drop k) = turn a 0 L ∧ OwE wr w.heap.size v0 T ∧ Below w.heap.size w wr) (fun _ _ i _ => N - (intOf i).toNat)
  case atStart => exact ⟨0, 0, 0, -1, 0, [], _, rfl, Nat.zero_le _, rfl, rfl, ⟨by omega, by omega, by omega, rfl, rfl, by have := Hp.out; simpa using this⟩, Hr.out, rfl, OwE.nil _ _, Hb1.out⟩
  case round =>
    obtain ⟨k, f, F, last, more, T, v, rfl, hk, rfl, rfl, ⟨hl1, hl2, hl3, hF, hT, hpl⟩, hrt, hpre, hown, hb⟩ := hrel
    have Hb := hide hb
    have Hown := hide hown
    have Hpre := hide hpre
    have Hs1 := hide (Lw.Vs.below Hs.out hb)
    have HT := hide hT
    clear hb hown hpre hT
    by_cases hlt : k < N
    · obtain ⟨b, o, e, Ae, ce, rfl, hke, ⟨c0, c1, c2⟩, hv⟩ := Hs'.out.at Hb.out (k := k) (by have := HN.out; omega)
      have Hv := hide hv
      have hdk : L.drop k = e :: L.drop (k + 1) := by
        have h1 : k < L.length := by have := HN.out; omega
        rw [List.drop_eq_getElem_cons h1]
        rw [List.getElem?_eq_getElem h1] at hke
        injection hke with hke
        rw [hke]
      rw [hdk] at hrt Hpre hpl
      obtain ⟨p, d, ep, ed, hpd, hlp, hne, hr'⟩ := right_head hrt hl1
      have hlenX : ((a.drop p).take d).length = d := by rw [List.length_take, List.length_drop, ← HA.out]; omega
      rw [play, ep, ed] at hpl
      simp only [Int.toNat_natCast, List.length_append, List.length_take, List.length_drop] at hpl
      rw [← HA.out] at hpl
      have he : emitI ((p : Int) + more) e.ins.length ((a.drop p).take d) = [⟨(p : Int) + more, e.ins.length, (a.drop p).take d⟩] := by
        unfold emitI
        rw [if_neg]
        rintro ⟨h1, h2⟩
        rcases hne with h | h
        · rw [h2] at hlenX; exact h hlenX.symm
        · exact h (List.eq_nil_of_length_eq_zero (by omega))
      have Hpre2 := hide (show (T ++ emitI ((p : Int) + more) e.ins.length ((a.drop p).take d)) ++ turn a (more + ((e.ins.length : Int) - d)) (L.drop (k + 1)) = turn a 0 L by
        rw [← Hpre.out, turn, ep, ed, he, show more + ((e.ins.length : Int) - d) = more + e.ins.length - d from by omega]
        simp)
      have Hone := hide (show (T ++ emitI ((p : Int) + more) e.ins.length ((a.drop p).take d)).length = k + 1 by
        rw [he, List.length_append, HT.out]; rfl)
      clear he
      obtain ⟨q, hq⟩ : ∃ q, q = p + d := ⟨_, rfl⟩
      obtain ⟨G, hG⟩ : ∃ G, G = F + (p - f) := ⟨_, rfl⟩
      have hcut := vs_cut Hs1.out (i := p) (j := q) (by omega) (by rw [← HA.out]; omega)
      have hrun := fun w => run_cut2 w A n c p q (by omega) (by omega)
      obtain ⟨A2, hA2⟩ : ∃ A2, (if c = p then A else A.map (·.add p)) = A2 := ⟨_, rfl⟩
      rw [hA2] at hcut
      simp only [hA2] at hrun
      rw [show q - p = d from by omega] at hcut
      simp only [show q - p = d from by omega] at hrun
      have hw1 : IntKind.i64.wrap ((p : Int) + d) = (q : Int) := by rw [IntWalk.i64_in _ (by omega)]; omega
      have hw2 : IntKind.i64.wrap ((p : Int) + more) = (G : Int) := by rw [IntWalk.i64_in _ (by omega)]; omega
      have Hcut := hide hcut
      rw [ep] at c0
      rw [ed] at c1
      obtain ⟨X, hX⟩ : ∃ X, X = (a.drop p).take d := ⟨_, rfl⟩
      rw [← hX] at hlenX Hcut Hpre2 Hone
      rw [show (p : Int) + more = (G : Int) from by omega] at Hpre2 Hone
      rw [← hlenX] at hrun
      have HX := hide hlenX
      obtain ⟨I, hI⟩ : ∃ I, I = e.ins := ⟨_, rfl⟩
      rw [← hI] at c2 Hv Hpre2 Hone hpl
      have hi1 : I.length ≤ 1000000 := by omega
      have hd1 : d ≤ 1000000 := by omega
      have hm0 : -1000000 ≤ more := by omega
      have hm1 : more ≤ 1000000 := by omega
      have Hq := hide (show (q : Int) = p + d by omega)
      have Hnum := hide (show (((G + I.length : Nat)) : Int) = (q : Int) + (more + ((I.length : Int) - d)) ∧ G + I.length + (play a q (L.drop (k + 1))).length ≤ 1000000 ∧ q ≤ n by
        rw [hq]; refine ⟨?_, ?_, ?_⟩ <;> omega)
      rw [← hq] at hr'
      have Hr' := hide hr'
      clear hdk hke hv ep ed hrt Hpre hlp hl2 hpd hl1 hr' hne hX hI hcut hA2 hpl hlenX hF hq hG
      have hB1 : w.heap.size ≤ wr.heap.size := Hb.out.size
      go_wp2_with fail
      have Hrow := hide (Row.fresh wr tE #[.int .i64 (p : Int), .int .i64 (d : Int), .slice Ae I.length ce])
      have Hown1 := hide (Hown.out.put_box (.cells #[.int .i64 (p : Int), .int .i64 (d : Int), .slice Ae I.length ce] tE))
      have Hb1' := hide (Hb.out.alloc hB1 (.cells #[.int .i64 (p : Int), .int .i64 (d : Int), .slice Ae I.length ce] tE))
      have Hcut1 := hide (Lw.Vs.below Hcut.out ((Below.refl _ wr).alloc (Nat.le_refl _) (.cells #[.int .i64 (p : Int), .int .i64 (d : Int), .slice Ae I.length ce] tE)))
      obtain ⟨wx, hwx⟩ : ∃ wx, wx = wr.alloc (.cells #[.int .i64 (p : Int), .int .i64 (d : Int), .slice Ae I.length ce] tE) := ⟨_, rfl⟩
      obtain ⟨g, hg⟩ : ∃ g, g = wr.heap.size := ⟨_, rfl⟩
      have Hgv := hide (show some g ≠ v.ownBlock by
        obtain ⟨V, _, hr, _⟩ := Hown.out
        intro h
        have := (World.ownsRow.lt hr _ h.symm).2
        omega)
      rw [← hwx] at Hrow Hown1 Hb1' Hcut1 ⊢
      rw [← hg] at Hrow hB1 ⊢
      clear hwx hg c0 c1 c2
      have b0 := Hrow.out.cell 0
      have b1 := Hrow.out.cell 1
      have b2 := Hrow.out.cell 2
      simp only [List.getElem?_cons_zero, List.getElem?_cons_succ] at b0 b1 b2
      refine Rg.wp_region_ord (fun w' => w'.cell? ⟨g, 0, none⟩ = some (.int .i64 (p : Int)) ∧ w'.cell? ⟨g, 1, none⟩ = some (.int .i64 (d : Int)) ∧ w'.cell? ⟨g, 2, none⟩ = some (.slice Ae I.length ce)) [(0, true), (1, true), (2, true), (3, true), (4, true), (5, true), (6, true), (7, true), (8, true), (9, true), (10, true), (11, true), (12, true), (13, true), (14, true), (15, true), (16, true), (17, false), (18, true)] (by kernel_rfl) (by kernel_rfl) ?_
      simp only [Rg.pick, List.map_cons, List.map_nil, List.getD_cons_zero, List.getD_cons_succ]
      iterate 17 (refine Rg.ord_quiet (v := ?_) rfl (fun w' hS => ?_) ⟨b0, b1, b2⟩ ?_; rotate_left; (obtain ⟨s0, s1, s2⟩ := hS; go_simp; with_reducible rfl); simp only [Act.put, List.setIfInBounds_toArray, List.set_cons_succ, List.set_cons_zero])
      refine Rg.ord_loud rfl (fun K hK => ?_)
      go_simp
      refine (add_any w.heap.size v T G I.length X A2 _ _ wx.drew Hown1.out.drew (vs_drew Hcut1.out) Hb1'.out.size (by have := HT.out; omega) (by have := HX.out; omega)).mono ?_
      rintro y w2 ⟨v2, rfl, hown2, hb2, hg2⟩
      have hrow2 := Hrow.out.drew.grown hg2 Hgv.out
      have Hown2 := hide hown2
      have Hb2 := hide (Hb1'.out.drew.trans hb2)
      clear hown2 hb2 hg2 b0 b1 b2
      have b0 := hrow2.cell 0
      have b1 := hrow2.cell 1
      have b2 := hrow2.cell 2
      simp only [List.getElem?_cons_zero, List.getElem?_cons_succ] at b0 b1 b2
      refine hK _ _ (fun _ => ⟨b0, b1, b2⟩) ?_
      clear hK K hrow2
      iterate 1 (refine Rg.ord_quiet (v := ?_) rfl (fun w' hS => ?_) ⟨b0, b1, b2⟩ ?_; rotate_left; (obtain ⟨s0, s1, s2⟩ := hS; go_simp; with_reducible rfl); simp only [Act.put, List.setIfInBounds_toArray, List.set_cons_succ, List.set_cons_zero])
      refine Rg.ord_nil ?_
      clear hw1 hw2 hrun
      go_wp2
      have hnum := Hnum.out
      exact ⟨⟨k + 1, q, G + I.length, (q : Int), more + ((I.length : Int) - d), _, _, rfl, by omega, by go_num, rfl, ⟨by omega, by omega, hnum.2.2, hnum.1, Hone.out, hnum.2.1⟩, Hr'.out, Hpre2.out, Hown2.out, Hb2.out⟩, by simp [intOf]; omega⟩
    · obtain rfl : k = N := by omega
      have Hpre2 := hide (show T = turn a 0 L by rw [← Hpre.out, HN.out, List.drop_length, turn, List.append_nil])
      go_wp2
      go_ret
      exact ⟨_, rfl, by rw [← Hpre2.out]; exact Hown.out, Hb.out⟩

set_option maxHeartbeats 1000000 in
set_option maxRecDepth 100000 in
theorem turn_no (a : Ls) (L : List Ed) (A A' : Option Addr) (c c' : Nat) (w : World) (hs' : Es w A' c' L) (hn : a.length ≤ 1000000) (hl : L.length ≤ 1000000) (hr : right a.length (-1) L = false) :
    Calls Try.prog 29 #[.slice A a.length c, .slice A' L.length c'] w fun y w' => y = .returned (.slice none 0 0) ∧ Below w.heap.size w w' := by
  have HR1 := hide (right_any a.length L A' c' w hs' hl (by omega) (by omega))
  have Hr := hide hr
  obtain ⟨N, hN⟩ : ∃ N, N = L.length := ⟨_, rfl⟩
  obtain ⟨n, hna⟩ : ∃ n, n = a.length := ⟨_, rfl⟩
  rw [← hN] at HR1 ⊢
  rw [← hna] at HR1 Hr ⊢
  clear hs' hN hr hna hl
  go_enter Try.func29, Try.ntmps29
  go_wp2_with fail
  refine HR1.out.mono ?_
  rintro y w1 ⟨rfl, hb1⟩
  rw [Hr.out]
  have Hb1 := hide hb1
  clear hb1
  go_wp2
  go_ret
  exact ⟨rfl, Hb1.out⟩
end Go.Proofs.Ytiegkfjipcgheaa.Df
