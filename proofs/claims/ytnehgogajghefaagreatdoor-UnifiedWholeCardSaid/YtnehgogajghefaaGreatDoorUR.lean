/-
  unified: begin, Parse.
-/
import Derived.Test.YtnehgogajghefaaGreatDoorUQ
import Derived.OwnWalk
namespace Go.Proofs.YtnehgogajghefaaGreatDoor.Un
open Go Go.RowKit Kt Lw Li Df Hu

theorem hkL_len (e : Hk) : 1 ≤ (hkL e).length := by rw [hkL, List.length_cons]; omega
theorem hksL_len : ∀ l : List Hk, l.length ≤ ((l.map hkL).flatten).length
  | [] => Nat.le_refl _
  | e :: l => by
    have h1 := hkL_len e
    have h2 := hksL_len l
    simp only [List.map_cons, List.flatten_cons, List.length_append, List.length_cons]
    omega
theorem lines_len : ∀ l : Ls, l.length ≤ ((l.map lineL).flatten).length
  | [] => Nat.le_refl _
  | x :: l => by
    have h1 : 1 ≤ (lineL x).length := by unfold lineL; split <;> simp
    have h2 := lines_len l
    simp only [List.map_cons, List.flatten_cons, List.length_append, List.length_cons]
    omega
theorem line_mem (x : List UInt8) : ∃ z ∈ lineL x, x.length ≤ z.length := by
  unfold lineL
  split
  · exact ⟨x, by simp, Nat.le_refl _⟩
  · exact ⟨x ++ [10], by simp, by simp⟩
theorem hk_bd (e : Hk) (m : Nat) (h : ∀ z ∈ hkL e, z.length ≤ m) : e.lines.length ≤ (hkL e).length ∧ ∀ y ∈ e.lines, y.length ≤ m := by
  constructor
  · have := lines_len e.lines
    rw [hkL, List.length_cons]; omega
  · intro y hy
    obtain ⟨z, hz, hl⟩ := line_mem y
    refine Nat.le_trans hl (h z ?_)
    rw [hkL]
    exact List.mem_cons_of_mem _ (List.mem_flatten.2 ⟨lineL y, List.mem_map.2 ⟨y, hy, rfl⟩, hz⟩)
theorem inv_bd {s : St} {ls : Ls} (h : Inv s ls) (m : Nat) (hm : ∀ z ∈ ls, z.length ≤ m) : s.rv.length ≤ ls.length ∧ (∀ e ∈ s.rv, e.lines.length ≤ ls.length ∧ ∀ y ∈ e.lines, y.length ≤ m) ∧ (0 ≤ s.old ∧ s.old ≤ 4294967296) ∧ (0 ≤ s.fresh ∧ s.fresh ≤ 4294967296) := by
  rcases h with ⟨h1, h2, h3, h4⟩ | ⟨e, V, h1⟩
  · rw [h1, h3, h4]; simp
  · have hls := h1.ls
    have hall : ∀ k ∈ s.rv, ∃ a b, ls = a ++ (hkL k ++ b) := by
      intro k hk
      rw [h1.rv] at hk
      rcases List.mem_cons.1 hk with rfl | hk
      · exact ⟨_, [], by rw [hls, List.append_nil]⟩
      · obtain ⟨p, q, hpq⟩ := List.append_of_mem (List.mem_reverse.2 hk)
        exact ⟨(p.map hkL).flatten, (q.map hkL).flatten ++ hkL e, by rw [hls, hpq]; simp⟩
    refine ⟨?_, ?_, ⟨h1.o0, ?_⟩, h1.f0, ?_⟩
    · have h2 := hksL_len V.reverse
      have h3 := hkL_len e
      rw [h1.rv, hls, List.length_append, List.length_cons]
      rw [List.length_reverse] at h2
      omega
    · intro k hk
      obtain ⟨a, b, hab⟩ := hall k hk
      obtain ⟨h2, h3⟩ := hk_bd k m (fun z hz => hm z (by rw [hab]; exact List.mem_append_right _ (List.mem_append_left _ hz)))
      refine ⟨Nat.le_trans h2 ?_, h3⟩
      rw [hab, List.length_append, List.length_append]; omega
    · have h2 := h1.old
      have h3 := h1.a.2.2.1
      omega
    · have h2 := h1.new
      have h3 := h1.b.2.2.1
      omega
theorem Fg.below {B B' g : Nat} {w w' : World} (h : Fg B g w w') (h1 : B' ≤ B) (h2 : B' ≤ g) : Below B' w w' :=
  ⟨h.os, h.tape, h.output, h.size, fun k hk => h.block k (by omega) (by omega)⟩
theorem owh_base {w : World} {B B' : Nat} {v : Value} {L : List Hk} (h : OwH w B v L) (hb : B' ≤ B) : OwH w B' v L := by
  obtain ⟨V, hV, hr, hi⟩ := h
  exact ⟨V, hV, ⟨hr.1, hr.2.imp id fun ⟨g, cap, cur, hv', h1, h2⟩ => ⟨g, cap, cur, hv', Nat.le_trans hb h1, h2⟩⟩, fun p hp => owt_base (hi p hp) hb⟩
set_option maxRecDepth 100000 in
set_option maxHeartbeats 1000000 in
theorem begin_any (w : World) : Calls Tryz.prog 22 #[] w fun y w' => y = .returned (.pointer (some ⟨w.heap.size, 0, none⟩)) ∧ Row w' w.heap.size tR [fnV w.heap.size true, .slice none 0 0, .int .i64 0, .int .i64 0] ∧ Below w.heap.size w w' := by
  go_enter Tryz.func22, Tryz.ntmps22
  go_wp2_with fail
  have hr := Row.fresh w tR #[.nilFunc, .slice none 0 0, .int .i64 0, .int .i64 0]
  have hb := (Below.refl w.heap.size w).alloc (Nat.le_refl _) (.cells #[.nilFunc, .slice none 0 0, .int .i64 0, .int .i64 0] tR)
  have hs : (store ⟨w.heap.size, 0, none⟩ (.func (.func 41) #[.pointer (some ⟨w.heap.size, 0, none⟩)] #[])).run Tryz.prog (w.alloc (.cells #[.nilFunc, .slice none 0 0, .int .i64 0, .int .i64 0] tR)) = .ok () ((w.alloc (.cells #[.nilFunc, .slice none 0 0, .int .i64 0, .int .i64 0] tR)).setCell ⟨w.heap.size, 0, none⟩ (.func (.func 41) #[.pointer (some ⟨w.heap.size, 0, none⟩)] #[])) := store_row hr (i := 0) (by simp) _ .plain rfl
  rw [hs]
  clear hs hr hb
  go_wp2
  go_ret
  exact ⟨rfl, Row.fresh w tR #[fnV w.heap.size true, .slice none 0 0, .int .i64 0, .int .i64 0], (Below.refl w.heap.size w).alloc (Nat.le_refl _) _⟩
set_option maxRecDepth 100000 in
set_option maxHeartbeats 4000000 in
theorem parse_any (t : List UInt8) (w : World) (hE : Env w) (hl : t.length ≤ 100000) :
    Calls Tryz.prog 8 #[.string ⟨t.toArray⟩] w fun y w' => ∃ v, y = .returned (.tuple #[v, .int .i64 ((parse t).2.1 : Int), .int .i64 ((parse t).2.2 : Int)]) ∧ OwH w' w.heap.size v (parse t).1 ∧ Below w.heap.size w w' := by
  have HBg := hide (begin_any w)
  have HSp := hide (fun w' => split_any t w' (by omega))
  have HPr := hide (show parse t = fin (run ⟨[], 0, 0⟩ (lns t) 0) from rfl)
  have Hone := hide (lns_ones t)
  have Hlen := hide (show ∀ x ∈ lns t, x.length ≤ 100000 from fun x hx => Nat.le_trans (lns_mem_le hx) hl)
  have hNl := lns_len_le t
  have HE := hide hE
  obtain ⟨L, hL⟩ : ∃ L, L = lns t := ⟨_, rfl⟩
  rw [← hL] at HPr Hone Hlen hNl
  clear hE
  go_enter Tryz.func8, Tryz.ntmps8
  go_wp2_with fail
  refine HBg.out.mono ?_
  rintro y w1 ⟨rfl, hr1, hb1⟩
  have Hb1 := hide hb1
  have Hr1 := hide hr1
  clear hr1 hb1
  go_wp2_with fail
  refine (HSp.out w1).mono ?_
  rintro y w2 ⟨v, rfl, hown, hb2⟩
  rw [← hL] at hown
  have hown' : OwT w2 w1.heap.size tS v L := hown
  obtain ⟨As, cs, rfl, hvs⟩ := hown'.vs
  have hgw : w.heap.size < w1.heap.size := Hr1.out.lt
  have hr2 := Hr1.out.below hb2 hgw
  have Hvs := hide hvs
  have hwB : w.heap.size ≤ w2.heap.size := Nat.le_trans (Nat.le_of_lt hgw) hb2.size
  obtain ⟨g, hg⟩ : ∃ g, g = w.heap.size := ⟨_, rfl⟩
  have HE2 := hide (HE.out.keep (Hb1.out.trans (hb2.mono Hb1.out.size)))
  have Hb2 := hide (Hb1.out.trans (hb2.mono Hb1.out.size))
  rw [← hg] at hr2 hgw hwB
  have Hg := hide hg
  have hrd : RdM w2 w2.heap.size g (isW ⟨[], 0, 0⟩) ⟨[], 0, 0⟩ := ⟨⟨.slice none 0 0, hr2, rfl⟩⟩
  have Hrd := hide hrd
  obtain ⟨N, hN⟩ : ∃ N, N = L.length := ⟨_, rfl⟩
  rw [← hN] at hNl
  have HN := hide hN
  have hcell : ∀ wr k, Fg w2.heap.size g w2 wr → k < N → ∃ b, As = some ⟨b, 0, none⟩ ∧ wr.cell? ⟨b, k, none⟩ = some (.string ⟨(L.getD k []).toArray⟩) := fun wr k hf hk => by
    rcases hown'.2 with ⟨_, h2⟩ | ⟨gg, cc, cur, hv, hB1, hgg, _⟩
    · rw [hN] at hk; omega
    · injection hv with hv1 hv2 hv3
      subst hv1 hv3
      refine ⟨gg, rfl, ?_⟩
      have h1 := World.ownsRow.cellAt (cap := cs) hown' k (by rw [← hN]; omega)
      have h2 : gg < w2.heap.size := (Array.getElem?_eq_some_iff.1 hgg).1
      have h3 : wr.cell? ⟨gg, k, none⟩ = w2.cell? ⟨gg, k, none⟩ := World.cell?_of_block (a := ⟨gg, k, none⟩) (hf.block gg h2 (by omega))
      rw [h3, h1, texts_at L k (by rw [← hN]; exact hk)]
  have Hcell := hide hcell
  rw [← hN]
  clear hown hown' hvs hrd hN hcell hr2 Hr1 hb2
  go_wp2
  rw [← Hg.out]
  clear hg
  go_loopw [6, 13] (fun m i wr => ∃ (k : Nat) (st : St), k ≤ N ∧ m = .int .i64 k ∧ i = .int .i64 k ∧ run ⟨[], 0, 0⟩ L 0 = run st (L.drop k) k ∧ Inv st (L.take k) ∧ RdM wr w2.heap.size g (isW st) st ∧ Fg w2.heap.size g w2 wr) (fun _ i _ => N - (intOf i).toNat)
  case atStart => exact ⟨0, ⟨[], 0, 0⟩, Nat.zero_le _, rfl, rfl, rfl, .inl ⟨rfl, rfl, rfl, rfl⟩, Hrd.out, Fg.of (Below.refl _ _)⟩
  case round =>
    obtain ⟨k, st, hk, rfl, rfl, hrun, hinv, hrd, hfg⟩ := hrel
    obtain ⟨hi1, hi2, hi3, hi4⟩ := inv_bd hinv 100000 (fun z hz => Hlen.out z (List.mem_of_mem_take hz))
    rw [List.length_take] at hi1
    have hi2' : ∀ e ∈ st.rv, e.lines.length ≤ 1000000 ∧ ∀ y ∈ e.lines, y.length ≤ 1000000 := fun e he => by
      obtain ⟨a1, a2⟩ := hi2 e he
      rw [List.length_take] at a1
      exact ⟨by omega, fun y hy => Nat.le_trans (a2 y hy) (by omega)⟩
    obtain ⟨vr, hrow, hrv⟩ := hrd.ex
    have Hrun := hide hrun
    have Hinv := hide hinv
    have Hrd2 := hide hrd
    have Hfg := hide hfg
    have Hrow := hide hrow
    have Hrv := hide hrv
    have Hi := hide hi2'
    have Hi34 := hide (And.intro hi3 hi4)
    have hrvl : st.rv.length ≤ 1000000 := by omega
    have hBs := hfg.size
    have Hbw := hide (Hb2.out.trans (hfg.below (by rw [← Hg.out]; exact hwB) (by rw [Hg.out]; exact Nat.le_refl _)))
    clear hrun hinv hrd hfg hi2 hi2' hi3 hi4 hi1
    by_cases hlt : k < N
    · obtain ⟨bs, rfl, ck⟩ := Hcell.out wr k Hfg.out hlt
      have hxm : L.getD k [] ∈ L := by
        have h1 : k < L.length := by have := HN.out; omega
        rw [List.getD_eq_getElem?_getD, List.getElem?_eq_getElem h1]
        exact List.getElem_mem h1
      have hx1 := Hone.out _ hxm
      have hx2 := Hlen.out _ hxm
      have Hdr := hide (show L.drop k = L.getD k [] :: L.drop (k + 1) by
        have h1 : k < L.length := by have := HN.out; omega
        rw [List.drop_eq_getElem_cons h1, List.getD_eq_getElem?_getD, List.getElem?_eq_getElem h1]; rfl)
      have Htk := hide (show L.take (k + 1) = L.take k ++ [L.getD k []] by
        have h1 : k < L.length := by have := HN.out; omega
        rw [List.take_succ_eq_append_getElem h1, List.getD_eq_getElem?_getD, List.getElem?_eq_getElem h1]; rfl)
      obtain ⟨x, hx⟩ : ∃ x, x = L.getD k [] := ⟨_, rfl⟩
      rw [← hx] at ck hx1 hx2 Hdr Htk
      have hxne := one_ne hx1
      have Hx1 := hide hx1
      have c0 := Hrow.out.cell 0
      simp only [List.getElem?_cons_zero] at c0
      clear hx hxm hx1
      have HSt := hide (show step st x = if isW st = true then stepH st x else stepL st x by
        unfold step isW
        by_cases h : st.old = 0 ∧ st.fresh = 0
        · rw [if_pos h, if_pos (decide_eq_true h)]
        · rw [if_neg h, if_neg (by rw [decide_eq_false h]; simp)])
      cases hw : isW st with
      | true =>
        rw [hw] at c0
        have c0' : wr.cell? ⟨g, 0, none⟩ = some (.func (.func 41) #[.pointer (some ⟨g, 0, none⟩)] #[]) := c0
        clear c0
        have hh := rhead_any w2.heap.size g st x wr Hrd2.out hBs (HE.out.keep Hbw.out) (by omega) hrvl Hi.out
        have Hs2 := hide (show step st x = stepH st x by rw [HSt.out, hw]; rfl)
        clear HSt hw
        cases hs : stepH st x with
        | none =>
          rw [hs] at hh Hs2
          simp only [Option.isSome_none, Option.getD_none] at hh
          have HH := hide hh
          have Hp := hide (show parse t = ([], k + 1, 3) by
            rw [HPr.out, Hrun.out, Hdr.out, run, Hs2.out]; rfl)
          clear hh hs
          go_wp2_with fail
          refine HH.out.mono ?_
          rintro y w3 ⟨rfl, _, hf3⟩
          have Hb3 := hide (Hbw.out.trans (hf3.below (by rw [← Hg.out]; exact hwB) (by rw [Hg.out]; exact Nat.le_refl _)))
          clear hf3
          go_wp2
          go_ret3
          exact ⟨.slice none 0 0, by rw [Hp.out]; rfl, by rw [Hp.out]; exact OwH.nil _ _, Hb3.out⟩
        | some st2 =>
          rw [hs] at hh Hs2
          simp only [Option.isSome_some, Option.getD_some] at hh
          have HH := hide hh
          have Hnx := hide (show run ⟨[], 0, 0⟩ L 0 = run st2 (L.drop (k + 1)) (k + 1) by
            rw [Hrun.out, Hdr.out, run_some Hs2.out])
          have Hi2 := hide (show Inv st2 (L.take (k + 1)) by rw [Htk.out]; exact inv_step Hinv.out Hx1.out Hs2.out)
          clear hh hs
          go_wp2_with fail
          refine HH.out.mono ?_
          rintro y w3 ⟨rfl, hrd3, hf3⟩
          have Hf3 := hide (Hfg.out.trans hf3)
          have Hrd3 := hide hrd3
          clear hf3 hrd3
          go_wp2
          exact ⟨⟨k + 1, st2, by omega, by go_num, by go_num, Hnx.out, Hi2.out, Hrd3.out, Hf3.out⟩, by simp [intOf]; omega⟩
      | false =>
        rw [hw] at c0
        have c0' : wr.cell? ⟨g, 0, none⟩ = some (.func (.func 62) #[.pointer (some ⟨g, 0, none⟩)] #[]) := c0
        clear c0
        obtain ⟨e, V0, hev⟩ : ∃ e V0, st.rv = e :: V0 := by
          rcases Hinv.out with ⟨_, _, h3, h4⟩ | ⟨e, V, h1⟩
          · have : isW st = true := decide_eq_true ⟨h3, h4⟩
            rw [this] at hw; cases hw
          · exact ⟨e, V, h1.rv⟩
        have hh := rline_any w2.heap.size g st e V0 x wr Hrd2.out hBs hev hxne (by omega) hrvl Hi.out Hi34.out
        have Hs2 := hide (show step st x = stepL st x by rw [HSt.out, hw]; rfl)
        clear HSt hw
        cases hs : stepL st x with
        | none =>
          rw [hs] at hh Hs2
          simp only [Option.isSome_none, Option.getD_none] at hh
          have HH := hide hh
          have Hp := hide (show parse t = ([], k + 1, 3) by
            rw [HPr.out, Hrun.out, Hdr.out, run, Hs2.out]; rfl)
          clear hh hs
          go_wp2_with fail
          refine HH.out.mono ?_
          rintro y w3 ⟨rfl, _, hf3⟩
          have Hb3 := hide (Hbw.out.trans (hf3.below (by rw [← Hg.out]; exact hwB) (by rw [Hg.out]; exact Nat.le_refl _)))
          clear hf3
          go_wp2
          go_ret3
          exact ⟨.slice none 0 0, by rw [Hp.out]; rfl, by rw [Hp.out]; exact OwH.nil _ _, Hb3.out⟩
        | some st2 =>
          rw [hs] at hh Hs2
          simp only [Option.isSome_some, Option.getD_some] at hh
          have HH := hide hh
          have Hnx := hide (show run ⟨[], 0, 0⟩ L 0 = run st2 (L.drop (k + 1)) (k + 1) by
            rw [Hrun.out, Hdr.out, run_some Hs2.out])
          have Hi2 := hide (show Inv st2 (L.take (k + 1)) by rw [Htk.out]; exact inv_step Hinv.out Hx1.out Hs2.out)
          clear hh hs
          go_wp2_with fail
          refine HH.out.mono ?_
          rintro y w3 ⟨rfl, hrd3, hf3⟩
          have Hf3 := hide (Hfg.out.trans hf3)
          have Hrd3 := hide hrd3
          clear hf3 hrd3
          go_wp2
          exact ⟨⟨k + 1, st2, by omega, by go_num, by go_num, Hnx.out, Hi2.out, Hrd3.out, Hf3.out⟩, by simp [intOf]; omega⟩
    · have hkN : k = N := by omega
      have hpf : parse t = fin (k, some st) := by
        rw [HPr.out, Hrun.out, List.drop_of_length_le (by have := HN.out; omega), run]
      have HW := hide (whole_any g _ vr st.old st.fresh wr Hrow.out)
      by_cases hw : st.old = 0 ∧ st.fresh = 0
      · have Hp := hide (show parse t = (st.rv.reverse, 0, 0) by rw [hpf]; exact if_pos hw)
        have HW2 := hide (show Calls Tryz.prog 23 #[.pointer (some ⟨g, 0, none⟩)] wr fun y w' => y = .returned (.bool true) ∧ ∃ k, w' = wr.drewN k from by rw [← (show decide (st.old = 0 ∧ st.fresh = 0) = true from decide_eq_true hw)]; exact HW.out)
        obtain ⟨Av, nv, cv, rfl⟩ := Hrv.out.form
        clear HW hw hpf
        go_wp2_with fail
        refine HW2.out.mono ?_
        rintro y w3 ⟨rfl, n3, rfl⟩
        have hr3 := Hrow.out.drewN n3
        have c1 := hr3.cell 1
        simp only [List.getElem?_cons_zero, List.getElem?_cons_succ] at c1
        have Hrv3 := hide (Hrv.out.keep (below_drewN (Below.refl _ wr) n3))
        have Hb3 := hide (below_drewN Hbw.out n3)
        clear hr3
        generalize World.drewN wr n3 = w3 at *
        go_wp2
        go_ret3
        exact ⟨_, by rw [Hp.out]; rfl, by rw [Hp.out]; exact owh_base Hrv3.out.owh (by rw [← Hg.out]; exact hwB), Hb3.out⟩
      · have Hp := hide (show parse t = ([], k + 1, 2) by rw [hpf]; exact if_neg hw)
        have HW2 := hide (show Calls Tryz.prog 23 #[.pointer (some ⟨g, 0, none⟩)] wr fun y w' => y = .returned (.bool false) ∧ ∃ k, w' = wr.drewN k from by rw [← (show decide (st.old = 0 ∧ st.fresh = 0) = false from decide_eq_false hw)]; exact HW.out)
        clear HW hw hpf
        go_wp2_with fail
        refine HW2.out.mono ?_
        rintro y w3 ⟨rfl, n3, rfl⟩
        have Hb3 := hide (below_drewN Hbw.out n3)
        generalize World.drewN wr n3 = w3 at *
        go_wp2
        go_ret3
        exact ⟨.slice none 0 0, by rw [Hp.out, hkN]; rfl, by rw [Hp.out]; exact OwH.nil _ _, Hb3.out⟩
end Go.Proofs.YtnehgogajghefaaGreatDoor.Un
