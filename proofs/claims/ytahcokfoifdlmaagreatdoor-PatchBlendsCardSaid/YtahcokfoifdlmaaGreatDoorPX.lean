/-
  patches: a tree with changes.
-/
import Derived.BigQuiet
import Derived.Test.YtahcokfoifdlmaaGreatDoorQPR
import Derived.Test.YtahcokfoifdlmaaGreatDoorQNA
import Derived.Test.YtahcokfoifdlmaaGreatDoorQEB
namespace Go.Proofs.YtahcokfoifdlmaaGreatDoor.Tr
open Go Go.RowKit Kt Lw Li Lx Df Wr

set_option maxHeartbeats 2000000 in
set_option maxRecDepth 100000 in
theorem cloneF_any (t : List Fl) (A : Option Addr) (c : Nat) (w : World) (hs : Fls w A c t) (hn : t.length ≤ 100000) :
    Calls Tryz.prog 21 #[.slice A t.length c] w fun y w' => ∃ v, y = .returned v ∧ OwF w' w.heap.size v t ∧ Below w.heap.size w w' := by
  have q39 : ∀ (w : World) (a : Option Addr) (n c n' c' : Nat), (binOp .eql 22 (.slice a n c) (.slice none n' c')).run Tryz.prog w = .ok (.bool a.isNone) w := fun w a n c n' c' => Lib.run_eql_slice_nil w _ _ a n c n' c' Tryz.underlying22
  cases A with
  | none =>
    have h0 : t = [] := by
      cases t with
      | nil => rfl
      | cons b r => obtain ⟨_, _, he, _⟩ := hs.2 (by simp); cases he
    subst h0
    clear hs hn
    go_enter Tryz.func21, Tryz.ntmps21
    go_wp2
    go_ret
    exact ⟨_, rfl, OwF.nil _ _, Below.refl _ _⟩
  | some ad =>
    have Hs := hide hs
    obtain ⟨N, hN⟩ : ∃ N, N = t.length := ⟨_, rfl⟩
    rw [← hN] at hn ⊢
    have HN := hide hN
    have hb1 := (Below.refl w.heap.size w).alloc (Nat.le_refl _) (.cells #[] tF)
    have hown1 := OwF.made w w.heap.size tF rfl #[] 0 (Nat.le_refl _) rfl (by unfold maxLen; omega)
    have Hs1 := hide (hs.keep hb1)
    have Hb1 := hide hb1
    have Hown1 := hide hown1
    clear hs hN hb1 hown1
    go_enter Tryz.func21, Tryz.ntmps21
    go_wp2_with (refine wpList_catF rfl (.tmp 5) (.tmp 6) rfl w.heap.size w _ [] t _ c rfl (by rw [← HN.out]; rfl) Hown1.out Hs1.out (by rw [← HN.out]; simp; omega) Hb1.out Hb1.out.size ?_; intro v2 w2 hown2 hb2 _; have Hown2 := hide hown2; have Hb2 := hide hb2; clear hown2 hb2)
    go_ret
    exact ⟨_, rfl, Hown2.out, Hb2.out⟩
theorem play_take {t : List Fl} {l : List Ch} {k : Nat} {f : Ch} (hf : l[k]? = some f) : play t (l.take (k + 1)) = does (play t (l.take k)) f := by
  rw [take_snocC hf, play_append]; rfl
theorem cgo_take : ∀ {p : Option Bs} {l : List Ch} (k : Nat), cgo p l = true → cgo p (l.take k) = true
  | _, [], k, _ => by simp [cgo]
  | _, _ :: _, 0, _ => rfl
  | p, c :: l, k + 1, h => by
    obtain ⟨h1, h2, h3, h4, h5⟩ := cgo_cons h
    rw [List.take_succ_cons]
    exact cgo_of h1 h2 h3 h4 (cgo_take k h5)
/-- on the way a tree is right, and has room -/
theorem play_way {t : List Fl} {l : List Ch} (ht : go none t = true) (hl : cgo none l = true) (hn : t.length + l.length ≤ 1000) (k : Nat) : go none (play t (l.take k)) = true ∧ (play t (l.take k)).length ≤ 1000 := by
  have h1 : (l.take k).length ≤ l.length := by rw [List.length_take]; omega
  obtain ⟨i1, i2, _⟩ := play_any (cgo_take k hl) ht (by omega)
  exact ⟨i1, by omega⟩
set_option maxHeartbeats 4000000 in
set_option maxRecDepth 100000 in
theorem play_call (t : List Fl) (l : List Ch) (A A' : Option Addr) (c c' : Nat) (w : World) (hs : Fls w A c t) (hl : Chs w A' c' l) (hE : Most w) (ht : go none t = true) (hg : cgo none l = true) (hn : t.length + l.length ≤ 1000) :
    Calls Tryz.prog 9 #[.slice A t.length c, .slice A' l.length c'] w fun y w' => ∃ v, y = .returned v ∧ OwF w' w.heap.size v (play t l) ∧ Below w.heap.size w w' := by
  have Hl := hide hl
  have HE := hide hE
  have HC := hide (cloneF_any t A c w hs (by omega))
  have HW := hide (play_way ht hg hn)
  have Hcg := hide (fun (f : Ch) (hf : f ∈ l) => (cgo_above hg f hf).2)
  obtain ⟨N, hN⟩ : ∃ N, N = t.length := ⟨_, rfl⟩
  obtain ⟨M, hM⟩ : ∃ M, M = l.length := ⟨_, rfl⟩
  rw [← hN] at HC ⊢
  rw [← hM]
  have HM := hide hM
  have hM9 : M ≤ 1000 := by omega
  clear hs hl hE ht hg hn hN hM
  go_enter Tryz.func9, Tryz.ntmps9
  go_wp2_with fail
  refine HC.out.mono ?_
  rintro y w1 ⟨v1, rfl, hown1, hb1⟩
  have Hown1 := hide hown1
  have Hb1 := hide hb1
  clear hown1 hb1 HC
  go_wp2
  go_loopw [5, 14] (fun s i wr => ∃ (k : Nat) (v0 : Value), v0 = s ∧ k ≤ M ∧ i = .int .i64 k ∧ OwF wr w.heap.size v0 (play t (l.take k)) ∧ Below w.heap.size w wr) (fun _ i _ => M - (intOf i).toNat)
  case atStart => exact ⟨0, _, rfl, Nat.zero_le _, rfl, Hown1.out, Hb1.out⟩
  case round =>
    obtain ⟨k, v, rfl, hk, rfl, hown, hb⟩ := hrel
    clear Hown1 Hb1
    have Hb := hide hb
    have Hown := hide hown
    clear hb hown
    by_cases hlt : k < M
    · obtain ⟨b, o, f, rfl, hbl, hf, hd, d0, dm, d1⟩ := Hl.out.at (w' := wr) Hb.out (k := k) (by have := HM.out; omega)
      obtain ⟨f1, f2, f3⟩ := Hcg.out f (List.mem_of_getElem? hf)
      have f1' := (can_lt f1).2
      have Htk := hide (play_take (t := t) hf)
      obtain ⟨g1, g2⟩ := HW.out k
      obtain ⟨p, gn, x⟩ := f
      simp only at d0 dm d1 f1'
      have hrow := Row.fresh wr tC #[.string ⟨p.toArray⟩, .bool gn, .string ⟨x.toArray⟩]
      have hb1 := (Below.refl wr.heap.size wr).alloc (Nat.le_refl _) (.cells #[.string ⟨p.toArray⟩, .bool gn, .string ⟨x.toArray⟩] tC)
      obtain ⟨w2, hw2⟩ : ∃ w2, w2 = wr.alloc (.cells #[.string ⟨p.toArray⟩, .bool gn, .string ⟨x.toArray⟩] tC) := ⟨_, rfl⟩
      obtain ⟨g, hgq⟩ : ∃ g, g = wr.heap.size := ⟨_, rfl⟩
      rw [← hw2] at hrow hb1
      rw [← hgq] at hrow
      have c0 : w2.cell? ⟨g, 0, none⟩ = some (.string ⟨p.toArray⟩) := hrow.cell 0
      have c1 : w2.cell? ⟨g, 1, none⟩ = some (.bool gn) := hrow.cell 1
      have c2 : w2.cell? ⟨g, 2, none⟩ = some (.string ⟨x.toArray⟩) := hrow.cell 2
      have Hb2 := hide (Hb.out.trans (hb1.mono Hb.out.size))
      obtain ⟨T, hT⟩ : ∃ T, T = play t (l.take k) := ⟨_, rfl⟩
      rw [← hT] at Hown Htk g1 g2
      have Hown2 := hide (Hown.out.keep hb1)
      obtain ⟨A2, k2, rfl, hfl⟩ := Hown2.out.fls
      have HD := hide (tdrop_any T p A2 k2 w2 hfl (by omega) g1)
      have HP := hide (tput_any T ⟨p, x⟩ A2 k2 w2 hfl (HE.out.keep Hb2.out) (by omega) (by simp only; omega) g1)
      obtain ⟨n2, hn2⟩ : ∃ n, n = T.length := ⟨_, rfl⟩
      rw [← hn2] at HD HP Hown2 ⊢
      have W2 := hide hw2
      have G2 := hide hgq
      clear hrow hb1 hw2 hgq hf hd hbl f1 f2 f3 f1' g1 g2 hT hfl Hown
      cases gn with
      | true =>
        have Hdo := hide (show play t (l.take (k + 1)) = drop T p by rw [Htk.out]; rfl)
        generalize decide ((drop T p).length < n2) = dz at *
        clear hn2 Htk HP
        go_wp2_with (first | rw [← W2.out, ← G2.out] | fail)
        refine HD.out.mono ?_
        rintro y w3 ⟨v3, rfl, hown3, hb3⟩
        have hown3' := hown3.base Hb2.out.size
        have hb3' := Hb2.out.trans (hb3.mono Hb2.out.size)
        rw [← Hdo.out] at hown3'
        have Hown3 := hide hown3'
        have Hb3 := hide hb3'
        clear hown3 hb3 hown3' hb3' HD c0 c1 c2
        go_wp2
        exact ⟨⟨k + 1, _, rfl, by omega, by go_num, Hown3.out, Hb3.out⟩, by simp [intOf]; omega⟩
      | false =>
        have Hdo := hide (show play t (l.take (k + 1)) = if (put T ⟨p, x⟩).2 = 0 then (put T ⟨p, x⟩).1 else T by rw [Htk.out]; rfl)
        obtain ⟨r, e, hre⟩ : ∃ r e, put T ⟨p, x⟩ = (r, e) := ⟨_, _, rfl⟩
        rw [hre] at HP Hdo
        simp only at HP Hdo
        clear hn2 Htk hre HD
        go_wp2_with (first | rw [← W2.out, ← G2.out] | fail)
        refine HP.out.mono ?_
        rintro y w3 ⟨v3, rfl, hown3, hb3⟩
        have hown3' := hown3.base Hb2.out.size
        have Hold := hide (Hown2.out.keep hb3)
        have hb3' := Hb2.out.trans (hb3.mono Hb2.out.size)
        have Hown3 := hide hown3'
        have Hb3 := hide hb3'
        clear hown3 hb3 hown3' hb3' HP c0 c1 c2
        by_cases he : e = 0
        · subst he
          have Hr := hide (show play t (l.take (k + 1)) = r by rw [Hdo.out]; rfl)
          clear Hdo
          go_wp2
          exact ⟨⟨k + 1, _, rfl, by omega, by go_num, by rw [Hr.out]; exact Hown3.out, Hb3.out⟩, by simp [intOf]; omega⟩
        · have Hr := hide (show play t (l.take (k + 1)) = T by rw [Hdo.out, if_neg he])
          have hne : ((e : Int) == 0) = false := by rw [beq_eq_false_iff_ne]; omega
          have hne2 : (e == 0) = false := by rw [beq_eq_false_iff_ne]; exact he
          have hne3 : decide ((e : Int) = 0) = false := decide_eq_false (by omega)
          clear Hdo he
          go_wp2
          exact ⟨⟨k + 1, _, rfl, by omega, by go_num, by rw [Hr.out]; exact Hold.out, Hb3.out⟩, by simp [intOf]; omega⟩
    · obtain rfl : k = M := by omega
      have hown := Hown.out
      rw [HM.out, List.take_length] at hown
      have Hown9 := hide hown
      clear hown Hown
      go_wp2
      go_ret
      exact ⟨_, rfl, Hown9.out, Hb.out⟩
end Go.Proofs.YtahcokfoifdlmaaGreatDoor.Tr
