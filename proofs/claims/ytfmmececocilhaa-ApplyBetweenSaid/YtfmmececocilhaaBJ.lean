/-
  apply: Turn, Between; the statements' own example.
-/
import Derived.Test.YtfmmececocilhaaBF
import Derived.Test.YtfmmececocilhaaHN
import Derived.Test.YtfmmececocilhaaEL
import Derived.Test.YtfmmececocilhaaHT
import Derived.Test.YtfmmececocilhaaIF
namespace Go.Proofs.Ytfmmececocilhaa.Ap
open Go Go.RowKit Kt Lw Li Df Hu

def turnL (L : List Hk) : List Hk := if okL 0 0 L then L.map hturn else []
theorem okL_mem : ∀ (L : List Hk) (e m : Int), okL e m L = true → ∀ h ∈ L, hright h = true
  | h :: t, e, m, ho, g, hg => by
    obtain ⟨⟨h1, _, _⟩, h4⟩ := okL_cons.1 ho
    rcases List.mem_cons.1 hg with rfl | hg
    · exact h1
    · exact okL_mem t _ _ h4 g hg
set_option maxRecDepth 100000 in
set_option maxHeartbeats 2000000 in
theorem aturn_any (L : List Hk) (A : Option Addr) (c : Nat) (w : World) (hs : Hks w A c L) (hn : L.length ≤ 1000) (hb : ∀ h ∈ L, Sm h) (hx : ∀ h ∈ L, ∀ x ∈ h.lines, x.length ≤ 9223372036854775807) :
    Calls Try.prog 18 #[.slice A L.length c] w fun y w' => ∃ v, y = .returned v ∧ OwH w' w.heap.size v (turnL L) ∧ Below w.heap.size w w' := by
  have HR := hide (aright_any L A c w hs hn hb)
  have Hs := hide hs
  have Hsm := hide hb
  have Hx := hide hx
  have HT := hide (show turnL L = if okL 0 0 L then L.map hturn else [] from rfl)
  obtain ⟨N, hN⟩ : ∃ N, N = L.length := ⟨_, rfl⟩
  rw [← hN] at hn HR ⊢
  have HN := hide hN
  clear hs hb hx hN
  cases hok : okL 0 0 L with
  | false =>
    rw [hok] at HR HT
    clear hok
    go_enter Try.func18, Try.ntmps18
    go_wp2_with fail
    refine HR.out.mono ?_
    rintro y w1 ⟨rfl, hb1⟩
    go_wp2
    go_ret
    exact ⟨_, rfl, by rw [HT.out]; exact OwH.nil _ _, hb1⟩
  | true =>
    have Hal := hide (okL_mem L 0 0 hok)
    rw [hok] at HR HT
    clear hok
    go_enter Try.func18, Try.ntmps18
    go_wp2_with fail
    refine HR.out.mono ?_
    rintro y w1 ⟨rfl, hb1⟩
    have Hb1 := hide hb1
    clear hb1 HR
    go_wp2
    go_loopw [3, 11] (fun o i wr => ∃ (k : Nat) (v : Value), v = o ∧ k ≤ N ∧ i = .int .i64 k ∧ Hid (OwH wr w.heap.size v ((L.take k).map hturn)) ∧ Hid (Below w.heap.size w wr)) (fun _ i _ => N - (intOf i).toNat)
    case atStart => exact ⟨0, _, rfl, Nat.zero_le _, rfl, hide (OwH.nil _ _), hide Hb1.out⟩
    case round =>
      obtain ⟨k, v, rfl, hk, rfl, Hown, Hb⟩ := hrel
      by_cases hlt : k < N
      · obtain ⟨b, o, h, A', c', rfl, hke, ⟨c0, c1, c2, c3, c4⟩, hv⟩ := Hs.out.at Hb.out (k := k) (by have := HN.out; omega)
        have hm := List.mem_of_getElem? hke
        have HTn := hide (fun w' (hb : Below w.heap.size w w') => hturn_any h A' c' _ w' (Lw.Vs.below hv hb) (by have := (Hsm.out h hm).2.2.2.2; omega) (Hal.out h hm) (Hx.out h hm))
        have Htk := hide (show (L.take (k + 1)).map hturn = (L.take k).map hturn ++ [hturn h] by rw [List.take_add_one, hke]; simp)
        have hlk : ((L.take k).map hturn).length = k := by rw [List.length_map, List.length_take]; have := HN.out; omega
        generalize (L.take k).map hturn = done at *
        obtain ⟨za, hza⟩ : ∃ z, z = h.a := ⟨_, rfl⟩
        obtain ⟨zan, hzan⟩ : ∃ z, z = h.an := ⟨_, rfl⟩
        obtain ⟨zb, hzb⟩ : ∃ z, z = h.b := ⟨_, rfl⟩
        obtain ⟨zbn, hzbn⟩ : ∃ z, z = h.bn := ⟨_, rfl⟩
        obtain ⟨nh, hnh⟩ : ∃ z, z = h.lines.length := ⟨_, rfl⟩
        rw [← hza] at c0 HTn
        rw [← hzan] at c1 HTn
        rw [← hzb] at c2 HTn
        rw [← hzbn] at c3 HTn
        rw [← hnh] at c4 HTn
        obtain ⟨w4, hw4⟩ : ∃ w4, w4 = wr.alloc (.cells #[.int .i64 za, .int .i64 zan, .int .i64 zb, .int .i64 zbn, .slice A' nh c'] tH) := ⟨_, rfl⟩
        have hb4 : Below wr.heap.size wr w4 := by rw [hw4]; exact (Below.refl _ wr).alloc (Nat.le_refl _) _
        have Hb4 := hide (Hb.out.trans (hb4.mono Hb.out.size))
        have Hown4 := hide (Hown.out.keep hb4)
        clear hke hv hm hza hzan hzb hzbn hnh hb4 Hown
        go_wp2_with fail
        rw [← hw4]
        refine (HTn.out w4 Hb4.out).mono ?_
        rintro y w5 ⟨vi, rfl, hvi, hb5⟩
        obtain ⟨Ai, ni, ci, rfl⟩ := owt_form hvi
        have Hvi := hide (owt_base hvi Hb4.out.size)
        have Hown5 := hide (Hown4.out.keep hb5)
        have Hb5 := hide (Hb4.out.trans (hb5.mono Hb4.out.size))
        clear hvi hb5 HTn Hown4 Hb4 c0 c1 c2 c3 c4 hw4
        go_wp2_with (refine wpList_pushH rfl (.tmp 15) (.tmp 18) rfl w.heap.size w v (.slice Ai ni ci) done (hturn h) _ rfl rfl rfl Hown5.out Hvi.out (by omega) Hb5.out Hb5.out.size ?_; intro v6 w6 hown6 hb6 _)
        exact ⟨⟨k + 1, v6, rfl, by omega, by go_num, hide (by rw [Htk.out]; exact hown6), hide hb6⟩, by simp [intOf]; omega⟩
      · obtain rfl : k = N := by omega
        go_wp2
        go_ret
        exact ⟨_, rfl, by
          have h1 := Hown.out
          rw [HN.out, List.take_length] at h1
          rw [HT.out]; exact h1, Hb.out⟩
end Go.Proofs.Ytfmmececocilhaa.Ap
namespace Go.Proofs.Ytfmmececocilhaa.Ap
open Go Go.RowKit Kt Lw Li Df Hu

theorem OwH.lower {w : World} {B B' : Nat} {v : Value} {L : List Hk} (h : OwH w B v L) (hB : B' ≤ B) : OwH w B' v L := by
  obtain ⟨V, hV, hr, hi⟩ := h
  exact ⟨V, hV, ⟨hr.1, hr.2.imp id fun ⟨g, cap, cur, hv', h1, h2⟩ => ⟨g, cap, cur, hv', Nat.le_trans hB h1, h2⟩⟩, fun p hp => owt_base (hi p hp) hB⟩
theorem swp_mem : ∀ (ps : List Pt) (x : List UInt8), x ∈ lay (ps.map swp) → ∃ y ∈ lay ps, y.length = x.length
  | [], x, h => by cases h
  | p :: r, x, h => by
    have key : ∀ (s t : UInt8) (l : Ls), x ∈ mk s l → ∃ y ∈ mk t l, y.length = x.length := fun s t l hx => by
      obtain ⟨z, hz, rfl⟩ := List.mem_map.1 hx
      exact ⟨t :: z, List.mem_map.2 ⟨z, hz, rfl⟩, rfl⟩
    rw [List.map_cons, lay] at h
    rw [lay]
    rcases List.mem_append.1 h with h | h
    · rcases List.mem_append.1 h with h | h
      · obtain ⟨y, h1, h2⟩ := key 32 32 p.st h
        exact ⟨y, List.mem_append_left _ (List.mem_append_left _ h1), h2⟩
      · rcases List.mem_append.1 h with h | h
        · obtain ⟨y, h1, h2⟩ := key 45 43 p.cm h
          exact ⟨y, List.mem_append_left _ (List.mem_append_right _ (List.mem_append_right _ h1)), h2⟩
        · obtain ⟨y, h1, h2⟩ := key 43 45 p.gn h
          exact ⟨y, List.mem_append_left _ (List.mem_append_right _ (List.mem_append_left _ h1)), h2⟩
    · obtain ⟨y, h1, h2⟩ := swp_mem r x h
      exact ⟨y, List.mem_append_right _ h1, h2⟩
theorem turn_len {h : Hk} (hr : hright h = true) {M : Nat} (hx : ∀ x ∈ h.lines, x.length ≤ M) : ∀ x ∈ (hturn h).lines, x.length ≤ M := by
  obtain ⟨ps, _, hl, _, ht, _⟩ := hparts hr
  intro x hm
  rw [ht] at hm
  obtain ⟨y, h1, h2⟩ := swp_mem ps x hm
  rw [← h2]
  exact hx y (by rw [hl]; exact h1)
/-- what is known of the hunks between two lists -/
theorem bt_facts (a b : Ls) (r : Nat) (ha : a.length ≤ 40) (hb : b.length ≤ 40) (hxa : ∀ x ∈ a, x.length ≤ 140737488351232) (hxb : ∀ x ∈ b, x.length ≤ 140737488351232) :
    (mkHs a r 0 (D a b)).length ≤ 200 ∧ (∀ h ∈ mkHs a r 0 (D a b), Sm h ∧ h.lines.length ≤ 1000 ∧ (∀ x ∈ h.lines, x.length ≤ 9223372036854775806)) ∧ (∀ h ∈ (mkHs a r 0 (D a b)).map hturn, Sm h ∧ h.lines.length ≤ 2000 ∧ (∀ x ∈ h.lines, x.length ≤ 9223372036854775806)) := by
  obtain ⟨_, h2, h3⟩ := hs_facts a b r ha hb hxa hxb
  have key : ∀ h ∈ mkHs a r 0 (D a b), Sm h ∧ h.lines.length ≤ 1000 ∧ (∀ x ∈ h.lines, x.length ≤ 9223372036854775806) := fun h hh => by
    obtain ⟨k1, k2, k3, k4, k5⟩ := h3 h hh
    obtain ⟨r1, r2, r3, r4, r5⟩ := (hright_iff h).1 k1
    have m1 := many_le 45 h.lines
    have m2 := many_le 43 h.lines
    exact ⟨⟨by omega, by omega, by omega, by omega, by omega⟩, k2, k5⟩
  refine ⟨h2, key, fun h hh => ?_⟩
  obtain ⟨g, hg, rfl⟩ := List.mem_map.1 hh
  obtain ⟨⟨s1, s2, s3, s4, s5⟩, k2, _⟩ := key g hg
  obtain ⟨_, _, _, _, _, ht, _⟩ := hparts (h3 g hg).1
  obtain ⟨r1, r2, r3, r4, r5⟩ := (hright_iff _).1 ht
  have o1 := old_len _ _ r1
  have o2 := new_len _ _ r1
  have key2 : ∀ l : Ls, l.length ≤ (oldL l).length + (newL l).length := by
    intro l
    induction l with
    | nil => simp
    | cons x l ih =>
      rw [oldL_cons, newL_cons, List.length_cons]
      by_cases h1 : sg x = 43
      · rw [if_pos h1, if_neg (by rw [h1]; decide), List.length_cons]; omega
      · rw [if_neg h1, List.length_cons]; split <;> (try rw [List.length_cons]) <;> omega
  have k3 := key2 (hturn g).lines
  have e1 : (hturn g).an = g.bn := rfl
  have e2 : (hturn g).bn = g.an := rfl
  obtain ⟨q1, q2, q3, q4, q5⟩ := (hright_iff g).1 (h3 g hg).1
  have m1 := many_le 45 g.lines
  have m2 := many_le 43 g.lines
  have : (hturn g).lines.length ≤ 2000 := by omega
  exact ⟨⟨s3, s4, s1, s2, by omega⟩, this, turn_len (h3 g hg).1 (key g hg).2.2⟩
set_option maxRecDepth 100000 in
set_option maxHeartbeats 2000000 in
theorem between_yes (a b : Ls) (r : Nat) (A A' : Option Addr) (c c' : Nat) (P P' : Nat → Prop) (w : World) (hs : Vs w P A c (texts a)) (hs' : Vs w P' A' c' (texts b)) (ha : a.length ≤ 40) (hb : b.length ≤ 40) (hr : r ≤ 1000)
    (hxa : ∀ x ∈ a, x.length ≤ 140737488351232) (hxb : ∀ x ∈ b, x.length ≤ 140737488351232) :
    Calls Try.prog 20 #[.slice A a.length c, .slice A' b.length c', .int .i64 (r : Int)] w fun y w' => ∃ v, y = .returned (.tuple #[v, .int .i64 0]) ∧ OwH w' w.heap.size v (mkHs a r 0 (D a b)) ∧ Below w.heap.size w w' := by
  obtain ⟨hfi, _, _⟩ := hs_facts a b r ha hb hxa hxb
  have hsm := D_small a b (by omega) (by omega)
  have HD := hide (diff_any a b A A' c c' _ _ w hs hs' (by omega) (by omega))
  have HM := hide (fun Al cl w1 (hb1 : Below w.heap.size w w1) (h2 : Es w1 Al cl (D a b)) => make_yes a r (D a b) A Al c cl _ w1 (Lw.Vs.below hs.bound hb1) h2 (by omega) (by omega) hr (by omega) (D_right a b) (fun x hx => Nat.le_trans (hxa x hx) (by omega)) hfi)
  obtain ⟨n, hn⟩ : ∃ n, n = a.length := ⟨_, rfl⟩
  obtain ⟨m, hm⟩ : ∃ m, m = b.length := ⟨_, rfl⟩
  generalize mkHs a r 0 (D a b) = HL at *
  generalize D a b = DL at *
  rw [← hn] at HD HM ⊢
  rw [← hm] at HD ⊢
  obtain ⟨k, hk⟩ : ∃ k, k = DL.length := ⟨_, rfl⟩
  rw [← hk] at HM
  have Hk := hide hk
  clear hs hs' ha hb hxa hxb hfi hsm hn hm hk
  go_enter Try.func20, Try.ntmps20
  go_wp2_with fail
  refine HD.out.mono ?_
  rintro y w1 ⟨v, rfl, hv, hb1⟩
  obtain ⟨Al, cl, rfl, he⟩ := OwE.es hv
  have HM2 := hide (HM.out Al cl w1 hb1 he)
  have Hb1 := hide hb1
  rw [← Hk.out]
  clear hv he hb1 HM HD
  go_wp2_with fail
  refine HM2.out.mono ?_
  rintro y w2 ⟨v2, rfl, hv2, hb2⟩
  have Hv2 := hide (OwH.lower hv2 Hb1.out.size)
  have Hb2 := hide (Hb1.out.trans (hb2.mono Hb1.out.size))
  clear hv2 hb2 HM2
  go_wp2
  go_ret2
  exact ⟨_, rfl, Hv2.out, Hb2.out⟩
set_option maxRecDepth 100000 in
set_option maxHeartbeats 2000000 in
theorem between_no (a b : Ls) (r : Int) (A A' : Option Addr) (c c' : Nat) (P P' : Nat → Prop) (w : World) (hs : Vs w P A c (texts a)) (hs' : Vs w P' A' c' (texts b)) (ha : a.length ≤ 40) (hb : b.length ≤ 40) (hr : ¬ (0 ≤ r ∧ r ≤ 1000)) :
    Calls Try.prog 20 #[.slice A a.length c, .slice A' b.length c', .int .i64 r] w fun y w' => y = .returned (.tuple #[.slice none 0 0, .int .i64 1]) ∧ Below w.heap.size w w' := by
  have hsm := D_small a b (by omega) (by omega)
  have HD := hide (diff_any a b A A' c c' _ _ w hs hs' (by omega) (by omega))
  have HM := hide (fun Al cl w1 (h2 : Es w1 Al cl (D a b)) => make_no a.length r (D a b) A Al c cl w1 h2 (by omega) (by omega) (fun h => hr ⟨h.1, h.2.1⟩))
  obtain ⟨n, hn⟩ : ∃ n, n = a.length := ⟨_, rfl⟩
  obtain ⟨m, hm⟩ : ∃ m, m = b.length := ⟨_, rfl⟩
  generalize D a b = DL at *
  rw [← hn] at HD HM ⊢
  rw [← hm] at HD ⊢
  obtain ⟨k, hk⟩ : ∃ k, k = DL.length := ⟨_, rfl⟩
  rw [← hk] at HM
  have Hk := hide hk
  clear hs hs' ha hb hsm hn hm hk hr
  go_enter Try.func20, Try.ntmps20
  go_wp2_with fail
  refine HD.out.mono ?_
  rintro y w1 ⟨v, rfl, hv, hb1⟩
  obtain ⟨Al, cl, rfl, he⟩ := OwE.es hv
  have HM2 := hide (HM.out Al cl w1 he)
  have Hb1 := hide hb1
  rw [← Hk.out]
  clear hv he hb1 HM HD
  go_wp2_with fail
  refine HM2.out.mono ?_
  rintro y w2 ⟨rfl, hb2⟩
  have Hb2 := hide (Hb1.out.trans (hb2.mono Hb1.out.size))
  clear hb2 HM2
  go_wp2
  go_ret2
  exact ⟨rfl, Hb2.out⟩
end Go.Proofs.Ytfmmececocilhaa.Ap
namespace Go.Proofs.Ytfmmececocilhaa.Ap
open Go Go.RowKit Kt Lw Li Df Hu

theorem lit_txt (w : World) (l : Ls) : Vs (w.alloc (.cells (texts l).toArray tS)) (fun _ => True) (some ⟨w.heap.size, 0, none⟩) l.length (texts l) :=
  ⟨by simp [texts], fun _ => ⟨w.heap.size, 0, rfl, trivial, fun j v hj => by
    rw [Nat.zero_add, (Row.fresh w _ _).cell]
    exact hj⟩⟩
theorem lit_one (w : World) (h : Hk) (A : Option Addr) (c : Nat) (P : Nat → Prop) (hv : Vs w P A c (texts h.lines)) : Hks (w.alloc (.cells (hkC h (.slice A h.lines.length c)).toArray tH)) (some ⟨w.heap.size, 0, none⟩) 1 [h] :=
  ⟨by simp, fun _ => ⟨w.heap.size, 0, rfl, by simp, fun j e' hj => by
    have hj0 : j = 0 := by
      have := (List.getElem?_eq_some_iff.1 hj).1
      simpa using this
    subst hj0
    simp at hj
    subst hj
    refine ⟨A, c, fun k v hk => ?_, Lw.Vs.bound (Lw.Vs.below hv ((Below.refl _ w).alloc (Nat.le_refl _) _))⟩
    rw [show 0 + 5 * 0 + k = k from by omega, (Row.fresh w _ _).cell]
    exact hk⟩⟩
abbrev ex : Hk := ⟨0, 1, 0, 1, [[45, 97], [43, 98]]⟩
theorem ex_ok : okL 0 0 [ex] = true := by decide
theorem ex_yes : appl [[97]] [ex] = ([[98]], 0) := by decide
theorem ex_no : appl [[99]] [ex] = ([], 6) := by decide
theorem ex_D : D [[97]] [[98]] = [⟨0, 1, [[98]]⟩] := by
  have h : fr [[97]] [[98]] = 0 := by decide
  have k : bk [[97]] [[98]] = 0 := by
    unfold bk
    rw [h]; decide
  unfold D
  rw [h, k]
  simp [mid, go_both, go_come, go_nil, lcs, emit]
theorem ex_mk : mkHs [[97]] 0 0 (D [[97]] [[98]]) = [ex] := by
  rw [ex_D, mkHs_cons]
  simp only [spl, mkHs_nil]
  rfl
theorem ex_sm : ∀ h ∈ [ex], Sm h := by
  intro h hh
  rw [List.mem_singleton.1 hh]
  unfold Sm
  decide
theorem ex_turn : (turnL [ex]).length = 1 := by decide
set_option maxRecDepth 100000 in
set_option maxHeartbeats 4000000 in
theorem awake_any (w : World) : Calls Try.prog 10 #[] w fun y w' => y = .returned (.bool true) ∧ Below w.heap.size w w' := by
  go_enter Try.func10, Try.ntmps10
  go_wp2_with fail
  obtain ⟨wA, hwA⟩ : ∃ wA, wA = w.alloc (.cells #[.string ⟨#[45, 97]⟩, .string ⟨#[43, 98]⟩] tS) := ⟨_, rfl⟩
  obtain ⟨wB, hwB⟩ : ∃ wB, wB = wA.alloc (.cells #[.int .i64 0, .int .i64 1, .int .i64 0, .int .i64 1, .slice (some ⟨w.heap.size, 0, none⟩) 2 2] tH) := ⟨_, rfl⟩
  obtain ⟨wC, hwC⟩ : ∃ wC, wC = wB.alloc (.cells #[.string ⟨#[97]⟩] tS) := ⟨_, rfl⟩
  have hsA : wA.heap.size = w.heap.size + 1 := by rw [hwA]; exact World.size_alloc w _
  have hsB : wB.heap.size = w.heap.size + 1 + 1 := by rw [hwB, World.size_alloc, hsA]
  have hbA : Below w.heap.size w wA := by rw [hwA]; exact (Below.refl _ w).alloc (Nat.le_refl _) _
  have hbB : Below w.heap.size w wB := by rw [hwB]; exact hbA.alloc hbA.size _
  have hbBC : Below wB.heap.size wB wC := by rw [hwC]; exact (Below.refl _ wB).alloc (Nat.le_refl _) _
  have hbC : Below w.heap.size w wC := hbB.trans (hbBC.mono hbB.size)
  have hvA : Vs wA (fun _ => True) (some ⟨w.heap.size, 0, none⟩) 2 (texts ex.lines) := by rw [hwA]; exact lit_txt w ex.lines
  have hkB : Hks wB (some ⟨w.heap.size + 1, 0, none⟩) 1 [ex] := by
    rw [hwB, ← hsA]; exact lit_one wA ex (some ⟨w.heap.size, 0, none⟩) 2 _ hvA
  have hvC : Vs wC (fun _ => True) (some ⟨w.heap.size + 1 + 1, 0, none⟩) 1 (texts [[97]]) := by rw [hwC, ← hsB]; exact lit_txt wB [[97]]
  rw [← hwA, ← hwB, ← hwC]
  have Hk := hide (fun w' (hb : Below wB.heap.size wB w') => hkB.keep hb)
  have HbBC := hide hbBC
  have HwB := hide hbB
  have HA1 := hide (apply_any [[97]] [ex] _ _ _ _ _ wC hvC (hkB.keep hbBC) (by simp) ex_sm (by simp))
  rw [ex_yes] at HA1
  clear hwA hwB hwC hsA hsB hbA hbB hbBC hbC hvA hkB hvC
  refine HA1.out.mono ?_
  rintro y w1 ⟨v1, rfl, hv1, hb1⟩
  obtain ⟨A1, c1, rfl, hx1⟩ := hv1.vs
  have Hx1 := hide hx1.bound
  have Hb1 := hide (HbBC.out.trans (hb1.mono HbBC.out.size))
  clear hv1 hx1 hb1 HA1 HbBC
  go_wp2_with fail
  obtain ⟨wD, hwD⟩ : ∃ wD, wD = w1.alloc (.cells #[.string ⟨#[99]⟩] tS) := ⟨_, rfl⟩
  have hbD1 : Below w1.heap.size w1 wD := by rw [hwD]; exact (Below.refl _ w1).alloc (Nat.le_refl _) _
  have hbD := Hb1.out.trans (hbD1.mono Hb1.out.size)
  have hvD : Vs wD (fun _ => True) (some ⟨w1.heap.size, 0, none⟩) 1 (texts [[99]]) := by rw [hwD]; exact lit_txt w1 [[99]]
  rw [← hwD]
  have HxD := hide (vs_keep Hx1.out hbD1)
  have HbD := hide hbD
  have HA2 := hide (apply_any [[99]] [ex] _ _ _ _ _ wD hvD (Hk.out wD hbD) (by simp) ex_sm (by simp))
  rw [ex_no] at HA2
  clear hwD hbD1 hbD hvD Hx1 Hb1
  refine HA2.out.mono ?_
  rintro y w2 ⟨v2, rfl, hv2, hb2⟩
  obtain ⟨A2, c2, rfl, _⟩ := hv2.vs
  have Hx2 := hide (vs_keep HxD.out hb2)
  have Hb2 := hide (HbD.out.trans (hb2.mono HbD.out.size))
  clear hv2 hb2 HA2 HxD HbD
  go_wp2_with fail
  obtain ⟨wE, hwE⟩ : ∃ wE, wE = w2.alloc (.cells #[.string ⟨#[97]⟩] tS) := ⟨_, rfl⟩
  obtain ⟨wF, hwF⟩ : ∃ wF, wF = wE.alloc (.cells #[.string ⟨#[98]⟩] tS) := ⟨_, rfl⟩
  have hsE : wE.heap.size = w2.heap.size + 1 := by rw [hwE]; exact World.size_alloc w2 _
  have hbE1 : Below w2.heap.size w2 wE := by rw [hwE]; exact (Below.refl _ w2).alloc (Nat.le_refl _) _
  have hbF1 : Below wE.heap.size wE wF := by rw [hwF]; exact (Below.refl _ wE).alloc (Nat.le_refl _) _
  have hbF := Hb2.out.trans ((hbE1.trans (hbF1.mono hbE1.size)).mono Hb2.out.size)
  have hvE : Vs wE (fun _ => True) (some ⟨w2.heap.size, 0, none⟩) 1 (texts [[97]]) := by rw [hwE]; exact lit_txt w2 [[97]]
  have hvF : Vs wF (fun _ => True) (some ⟨w2.heap.size + 1, 0, none⟩) 1 (texts [[98]]) := by rw [hwF, ← hsE]; exact lit_txt wE [[98]]
  rw [← hwE, ← hwF]
  have HxF := hide (vs_keep Hx2.out (hbE1.trans (hbF1.mono hbE1.size)))
  have HbF := hide hbF
  have HBt := hide (between_yes [[97]] [[98]] 0 _ _ _ _ _ _ wF (Lw.Vs.below hvE.bound hbF1) hvF (by simp) (by simp) (by omega) (fun x hx => by rw [List.mem_singleton.1 hx]; simp) (fun x hx => by rw [List.mem_singleton.1 hx]; simp))
  rw [ex_mk] at HBt
  clear hwE hwF hsE hbE1 hbF1 hbF hvE hvF Hx2 Hb2
  refine HBt.out.mono ?_
  rintro y w3 ⟨v3, rfl, hv3, hb3⟩
  obtain ⟨A3, c3, rfl, hk3⟩ := hv3.hks
  have Hx3 := hide (vs_keep HxF.out hb3)
  have Hb3 := hide (HbF.out.trans (hb3.mono HbF.out.size))
  have Hk3 := hide hk3
  clear hv3 hb3 HBt HxF HbF hk3
  go_wp2_with fail
  obtain ⟨wG, hwG⟩ : ∃ wG, wG = w3.alloc (.cells #[.string ⟨#[98]⟩] tS) := ⟨_, rfl⟩
  have hbG1 : Below w3.heap.size w3 wG := by rw [hwG]; exact (Below.refl _ w3).alloc (Nat.le_refl _) _
  have hvG : Vs wG (fun _ => True) (some ⟨w3.heap.size, 0, none⟩) 1 (texts [[98]]) := by rw [hwG]; exact lit_txt w3 [[98]]
  rw [← hwG]
  have HT := hide (texts_any [[98]] [[98]] _ _ _ _ _ _ wG (vs_keep Hx3.out hbG1) hvG (by simp))
  rw [decide_eq_true rfl] at HT
  have HbG := hide (Hb3.out.trans (hbG1.mono Hb3.out.size))
  have HkG := hide (Hk3.out.keep hbG1)
  clear hwG hbG1 hvG Hx3 Hb3 Hk3
  refine HT.out.mono ?_
  rintro y w4 ⟨rfl, hb4⟩
  have Hb4 := hide (HbG.out.trans (hb4.mono HbG.out.size))
  have HSm := hide (hsame_any [ex] A3 _ c3 1 w4 (HkG.out.keep hb4) (Hk.out w4 Hb4.out) (by simp) (fun h hh => by rw [List.mem_singleton.1 hh]; decide))
  clear hb4 HT HbG HkG
  go_wp2_with fail
  refine HSm.out.mono ?_
  rintro y w5 ⟨rfl, hb5⟩
  have Hb5 := hide (Hb4.out.trans (hb5.mono Hb4.out.size))
  have HR := hide (aright_any [ex] _ _ w5 (Hk.out w5 Hb5.out) (by simp) ex_sm)
  rw [ex_ok] at HR
  clear hb5 HSm Hb4
  go_wp2_with fail
  refine HR.out.mono ?_
  rintro y w6 ⟨rfl, hb6⟩
  have Hb6 := hide (Hb5.out.trans (hb6.mono Hb5.out.size))
  have HTn := hide (aturn_any [ex] _ _ w6 (Hk.out w6 Hb6.out) (by simp) ex_sm (fun h hh x hx => by
    rw [List.mem_singleton.1 hh] at hx
    simp only [List.mem_cons, List.not_mem_nil, or_false] at hx
    rcases hx with rfl | rfl <;> decide))
  clear hb6 HR Hb5
  go_wp2_with fail
  refine HTn.out.mono ?_
  rintro y w7 ⟨v7, rfl, hv7, hb7⟩
  obtain ⟨A7, c7, rfl, _⟩ := hv7.hks
  have Hb7 := hide (Hb6.out.trans (hb7.mono Hb6.out.size))
  simp only [ex_turn]
  clear hv7 hb7 HTn Hb6
  go_wp2
  go_ret
  exact ⟨rfl, HwB.out.trans (Hb7.out.mono HwB.out.size)⟩
end Go.Proofs.Ytfmmececocilhaa.Ap
