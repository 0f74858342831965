/-
  diff.Play, diff.Turn.
-/
import Derived.Test.YtiegkfjipcgheaaEE
namespace Go.Proofs.Ytiegkfjipcgheaa.Df
open Go Go.RowKit Kt Lw

theorem vs_cut {w : World} {P : Nat → Prop} {A : Option Addr} {c : Nat} {l : Ls} (h : Vs w P A c (texts l)) {i j : Nat} (hij : i ≤ j) (hj : j ≤ l.length) :
    Vs w P (if c = i then A else A.map (·.add i)) (c - i) (texts ((l.drop i).take (j - i))) := by
  have h1 := h.1
  rw [texts_len] at h1
  refine ⟨by rw [texts_len, List.length_take, List.length_drop]; omega, fun hn => ?_⟩
  rw [texts_len, List.length_take, List.length_drop] at hn
  obtain ⟨b, o, rfl, hp, hc⟩ := h.2 (by rw [texts_len]; omega)
  rw [if_neg (by omega)]
  refine ⟨b, o + i, by simp [Addr.add_mid], hp, fun k v hk => ?_⟩
  have hkl := (List.getElem?_eq_some_iff.1 hk).1
  rw [texts_len, List.length_take, List.length_drop] at hkl
  rw [show o + i + k = o + (i + k) from by omega]
  refine hc (i + k) v ?_
  rw [← hk]
  unfold texts
  rw [List.getElem?_map, List.getElem?_map, List.getElem?_take, if_pos (by omega), List.getElem?_drop]

theorem own_ne {w : World} {B g : Nat} {v : Value} {l : Ls} {cs : List Value} (hrow : Row w g tE cs) (hown : OwT w B tS v l) : some g ≠ v.ownBlock := by
  intro h
  rcases hown.2 with ⟨rfl, _⟩ | ⟨g', cap', cur', rfl, _, hgg', _⟩
  · cases h
  · simp only [Value.ownBlock, Option.some.injEq] at h
    subst h
    unfold Row at hrow
    rw [hgg'] at hrow
    simp [tS, tE] at hrow
theorem run_cut2 (w : World) (A : Option Addr) (n c i j : Nat) (hij : i ≤ j) (hj : j ≤ c) :
    (Instr.slice 22 (.slice A n c) (some (.int .i64 (i : Int))) (some (.int .i64 (j : Int))) none).run Try.prog w = .ok (.slice (if c = i then A else A.map (·.add i)) (j - i) (c - i)) w := by
  have hu := run_underlying Try.underlying22
  cases A with
  | none => go_simp
  | some ad => go_simp
theorem run_cut1 (w : World) (A : Option Addr) (n c i : Nat) (hi : i ≤ n) :
    (Instr.slice 22 (.slice A n c) (some (.int .i64 (i : Int))) none none).run Try.prog w = .ok (.slice (if c = i then A else A.map (·.add i)) (n - i) (c - i)) w := by
  have hu := run_underlying Try.underlying22
  cases A with
  | none => go_simp
  | some ad => go_simp

set_option maxHeartbeats 1000000 in
set_option maxRecDepth 100000 in
theorem play_yes (a : Ls) (L : List Ed) (A A' : Option Addr) (c c' : Nat) (P : Nat → Prop) (w : World) (hs : Vs w P A c (texts a)) (hs' : Es w A' c' L) (hn : a.length ≤ 1000000) (hl : L.length ≤ 1000000)
    (hp : (play a 0 L).length ≤ 1000000) (hr : right a.length (-1) L = true) :
    Calls Try.prog 27 #[.slice A a.length c, .slice A' L.length c'] w fun y w' => ∃ v, y = .returned (.tuple #[v, .bool true]) ∧ OwT w' w.heap.size tS v (play a 0 L) ∧ Below w.heap.size w w' := by
  have Hs := hide hs.bound
  have Hr1 := fun w1 (hb : Below w.heap.size w w1) => right_any a.length L A' c' w1 (hs'.keep hb) hl (by omega) (by omega)
  have HR1 := hide Hr1
  have Hs' := hide hs'
  obtain ⟨N, hN⟩ : ∃ N, N = L.length := ⟨_, rfl⟩
  rw [← hN] at hl HR1 ⊢
  have HN := hide hN
  have Hp := hide hp
  have hcap := hs.1
  rw [texts_len] at hcap
  obtain ⟨n, hna⟩ : ∃ n, n = a.length := ⟨_, rfl⟩
  rw [← hna] at hn hcap HR1 ⊢
  rw [← hna] at hr
  have Hr := hide hr
  have HA := hide hna
  clear hs hs' hN hp hr Hr1 hna
  go_enter Try.func27, Try.ntmps27
  go_wp2_with fail
  refine (HR1.out _ (Below.refl _ _)).mono ?_
  rintro y w1 ⟨rfl, hb1⟩
  rw [Hr.out]
  have Hb1 := hide hb1
  clear hb1
  go_wp2
  go_loopw [6, 7, 17] (fun v f i wr => ∃ (k fN : Nat) (last : Int) (pre : Ls) (v0 : Value), v0 = v ∧ k ≤ N ∧ i = .int .i64 k ∧ f = .int .i64 fN ∧ (-1 ≤ last ∧ fN ≤ last + 1 ∧ fN ≤ n) ∧ right n last (L.drop k) = true ∧ pre ++ play a fN (L.drop k) = play a 0 L ∧ OwT wr w.heap.size tS v0 pre ∧ Below w.heap.size w wr) (fun _ _ i _ => N - (intOf i).toNat)
  case atStart => exact ⟨0, 0, -1, [], _, rfl, Nat.zero_le _, rfl, rfl, ⟨by omega, by omega, by omega⟩, Hr.out, rfl, OwT.nil _ _ _, Hb1.out⟩
  case round =>
    obtain ⟨k, f, last, pre, v, rfl, hk, rfl, rfl, ⟨hl1, hl2, hl3⟩, hrt, hpre, hown, hb⟩ := hrel
    have Hb := hide hb
    have Hown := hide hown
    have Hpre := hide hpre
    have Hs1 := hide (Lw.Vs.below Hs.out hb)
    clear hb hown hpre
    by_cases hlt : k < N
    · obtain ⟨b, o, e, Ae, ce, rfl, hke, ⟨c0, c1, c2⟩, hv⟩ := Hs'.out.at Hb.out (k := k) (by have := HN.out; omega)
      have Hv := hide hv
      have hdk : L.drop k = e :: L.drop (k + 1) := by
        have h1 : k < L.length := by have := HN.out; omega
        rw [List.drop_eq_getElem_cons h1]
        rw [List.getElem?_eq_getElem h1] at hke
        injection hke with hke
        rw [hke]
      rw [hdk] at hrt Hpre
      obtain ⟨p, d, ep, ed, hpd, hlp, _, hr'⟩ := right_head hrt hl1
      have hpl := congrArg List.length Hpre.out
      have Hpre2 := hide (show (pre ++ ((a.drop f).take (p - f) ++ e.ins)) ++ play a (p + d) (L.drop (k + 1)) = play a 0 L by
        rw [← Hpre.out, play, ep, ed]; simp)
      have hpl := congrArg List.length Hpre2.out
      have hcut := vs_cut Hs1.out (i := f) (j := p) (by omega) (by rw [← HA.out]; omega)
      have hrun := fun w => run_cut2 w A n c f p (by omega) (by omega)
      obtain ⟨A2, hA2⟩ : ∃ A2, (if c = f then A else A.map (·.add f)) = A2 := ⟨_, rfl⟩
      rw [hA2] at hcut
      simp only [hA2] at hrun
      have Hcut := hide hcut
      clear hcut hA2
      have hp1 := Hp.out
      simp only [List.length_append] at hpl
      have hfp : f ≤ p := by omega
      have hpn : p ≤ n := by omega
      have hdn : p + d ≤ n := by omega
      rw [ep] at c0
      rw [ed] at c1
      have Hr' := hide hr'
      have hlen : ((a.drop f).take (p - f)).length = p - f := by rw [List.length_take, List.length_drop, ← HA.out]; omega
      have Hlen := hide hlen
      have hpl1 : pre.length + ((a.drop f).take (p - f)).length ≤ 1000000 := by omega
      have hpl2 : pre.length + ((a.drop f).take (p - f)).length + e.ins.length ≤ 1000000 := by omega
      have Hpl1 := hide hpl1
      have Hpl2 := hide hpl2
      clear hdk hke hv ep ed hrt Hpre hpl hp1 hlen hpl1 hpl2 hlp hl2 hpd hl1 hr'
      have hB1 : w.heap.size ≤ wr.heap.size := Hb.out.size
      obtain ⟨X, hX⟩ : ∃ X, X = (a.drop f).take (p - f) := ⟨_, rfl⟩
      rw [← hX] at Hlen Hcut Hpl1 Hpl2 Hpre2
      clear hX
      rw [← Hlen.out] at hrun
      go_wp2_with (first | (refine wpList_catT rfl (.tmp 21) (.tmp 26) 22 rfl Try.underlying22 infoText w.heap.size w _ pre X _ A2 _ rfl rfl (Hown.out.alloc _) (Lw.Vs.below Hcut.out ((Below.refl _ _).alloc (Nat.le_refl _) _)) (by have := Hpl1.out; omega) (Hb.out.alloc hB1 _) (by simp; omega) ?_; intro v1 w2 hown1 hb1 hg1; have hrow := box_kept Hown.out hg1; have Hrow := hide hrow; have Hown1 := hide hown1; have Hb1' := hide hb1; have b0 := hrow.cell 0; have b1 := hrow.cell 1; have b2 := hrow.cell 2; simp only [List.getElem?_cons_zero, List.getElem?_cons_succ] at b0 b1 b2; clear hown1 hb1 hg1 hrow) | (refine wpList_catT rfl (.tmp 28) (.tmp 30) 22 rfl Try.underlying22 infoText w.heap.size w _ (pre ++ X) e.ins _ Ae _ rfl rfl Hown1.out (Lw.Vs.below Hv.out Hb1'.out) (by have := Hpl2.out; rw [List.length_append]; omega) Hb1'.out Hb1'.out.size ?_; intro v2 w3 hown2 hb2 hg2; have hrow := Hrow.out.grown hg2 (own_ne Hrow.out Hown1.out); have d0 := hrow.cell 0; have d1 := hrow.cell 1; simp only [List.getElem?_cons_zero, List.getElem?_cons_succ] at d0 d1; have Hown2 := hide hown2; have Hb2' := hide hb2; clear hown2 hb2 hg2 hrow))
      exact ⟨⟨k + 1, p + d, ((p + d : Nat) : Int), pre ++ X ++ e.ins, _, rfl, by omega, by go_num, by go_num, ⟨by omega, by omega, hdn⟩, Hr'.out, by rw [List.append_assoc pre X]; exact Hpre2.out, Hown2.out, Hb2'.out⟩, by simp [intOf]; omega⟩
    · obtain rfl : k = N := by omega
      have hcut := vs_cut Hs1.out (i := f) (j := n) (by omega) (by rw [← HA.out]; omega)
      have hrun := fun w => run_cut1 w A n c f (by omega)
      obtain ⟨A2, hA2⟩ : ∃ A2, (if c = f then A else A.map (·.add f)) = A2 := ⟨_, rfl⟩
      rw [hA2, List.take_of_length_le (by rw [List.length_drop, ← HA.out]; omega)] at hcut
      simp only [hA2] at hrun
      have hpre2 : pre ++ a.drop f = play a 0 L := by
        rw [← Hpre.out, HN.out, List.drop_length, play]
      have Hpre2 := hide hpre2
      have hlen : (a.drop f).length = n - f := by rw [List.length_drop, ← HA.out]
      obtain ⟨X, hX⟩ : ∃ X, X = a.drop f := ⟨_, rfl⟩
      have hpl := congrArg List.length hpre2
      rw [List.length_append, hlen] at hpl
      rw [← hX] at hlen Hpre2 hcut
      have Hlen := hide hlen
      have Hcut := hide hcut
      have Hpl := hide (show pre.length + X.length ≤ 1000000 by have := Hp.out; omega)
      rw [← hlen] at hrun
      clear hX hcut hA2 hpre2 hpl hlen hrt hl1 hl2
      go_wp2_with (refine wpList_catT rfl (.tmp 38) (.tmp 41) 22 rfl Try.underlying22 infoText w.heap.size w _ pre X _ A2 _ rfl rfl Hown.out Hcut.out (by have := Hpl.out; omega) Hb.out Hb.out.size ?_; intro v1 w2 hown1 hb1 hg1; have Hown1 := hide hown1; have Hb1' := hide hb1; clear hown1 hb1 hg1)
      go_ret2
      exact ⟨_, rfl, by rw [← Hpre2.out]; exact Hown1.out, Hb1'.out⟩

set_option maxHeartbeats 1000000 in
set_option maxRecDepth 100000 in
theorem play_no (a : Ls) (L : List Ed) (A A' : Option Addr) (c c' : Nat) (w : World) (hs' : Es w A' c' L) (hn : a.length ≤ 1000000) (hl : L.length ≤ 1000000) (hr : right a.length (-1) L = false) :
    Calls Try.prog 27 #[.slice A a.length c, .slice A' L.length c'] w fun y w' => y = .returned (.tuple #[.slice none 0 0, .bool false]) ∧ Below w.heap.size w w' := by
  have HR1 := hide (right_any a.length L A' c' w hs' hl (by omega) (by omega))
  have Hr := hide hr
  obtain ⟨N, hN⟩ : ∃ N, N = L.length := ⟨_, rfl⟩
  obtain ⟨n, hna⟩ : ∃ n, n = a.length := ⟨_, rfl⟩
  rw [← hN] at HR1 ⊢
  rw [← hna] at HR1 Hr ⊢
  clear hs' hN hr hna hl
  go_enter Try.func27, Try.ntmps27
  go_wp2_with fail
  refine HR1.out.mono ?_
  rintro y w1 ⟨rfl, hb1⟩
  rw [Hr.out]
  have Hb1 := hide hb1
  clear hb1
  go_wp2
  go_ret2
  exact ⟨rfl, Hb1.out⟩
end Go.Proofs.Ytiegkfjipcgheaa.Df
