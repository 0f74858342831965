/-
  The statements ApplyBehind and ApplyAhead, walked.
-/
import Derived.Test.YtfmmececocilhaaBJ
import Derived.Test.YtfmmececocilhaaVG
namespace Go.Proofs.Ytfmmececocilhaa.Ap
open Go Go.RowKit Kt Lw Li Df Hu

theorem few_all {L : List Hk} (h : fewH L = true) : (∀ h ∈ L, Sm h ∧ h.lines.length ≤ 30 ∧ (-1048576 ≤ h.a ∧ h.a ≤ 1048576) ∧ (-1048576 ≤ h.b ∧ h.b ≤ 1048576)) ∧ L.length ≤ 12 := by
  unfold fewH at h
  rw [Bool.and_eq_true] at h
  have h1 : ∀ h ∈ L, ¬ tooBig h := of_decide_eq_true h.1
  have h2 : L.length ≤ 12 := of_decide_eq_true h.2
  refine ⟨fun g hg => ?_, h2⟩
  have := h1 g hg
  unfold tooBig at this
  unfold Sm
  omega
theorem does_len : ∀ (L : List Hk) (z : Nat) (r x : Ls), Does z r L x → (∀ h ∈ L, h.lines.length ≤ 30) → x.length ≤ r.length + 30 * L.length
  | [], _, r, x, h, _ => by rw [show x = r from h]; omega
  | h :: t, z, r, x, hd, hl => by
    obtain ⟨u, r', x', d1, d2, d3, d4⟩ := hd
    have ih := does_len t _ _ _ d4 fun g hg => hl g (List.mem_cons_of_mem _ hg)
    have h1 := hl h List.mem_cons_self
    have h2 : (newL h.lines).length ≤ h.lines.length := by unfold newL; rw [List.length_map]; exact List.length_filter_le _ _
    rw [d2, d3, List.length_append, List.length_append, List.length_append, List.length_append, List.length_cons]
    omega
theorem appl_cases (a : Ls) (L : List Hk) : (∃ x, appl a L = (x, 0)) ∨ (∃ e, appl a L = ([], e) ∧ (e = 3 ∨ e = 6)) := by
  unfold appl
  split
  · split
    · exact .inl ⟨_, rfl⟩
    · exact .inr ⟨6, rfl, .inr rfl⟩
  · exact .inr ⟨3, rfl, .inl rfl⟩
theorem OwS.keep {w w' : World} {B : Nat} {v : Value} {L : List Hk} (h : OwS w B v L) (hb : Below w.heap.size w w') (hB : B ≤ w.heap.size) : OwS w' B v L := by
  obtain ⟨V, hV, hr, hi⟩ := h
  refine ⟨V, hV, ⟨hr.1, ?_⟩, fun p hp => (hi p hp).keep (hb.mono hB)⟩
  rcases hr.2 with ⟨h1, h2⟩ | ⟨g, cap, cur, hv', h1, h2, h3⟩
  · exact .inl ⟨h1, h2⟩
  · exact .inr ⟨g, cap, cur, hv', h1, (hb.block g (Array.getElem?_eq_some_iff.1 h2).1).trans h2, h3⟩
/-- append(s, hunk), its lines in memory of others -/
theorem wp_pushS {o : Oper} {a : Act} {K : Act → World → Prop} {Q : Exit → Act → World → Prop} {W : World} (s x : Operand)
    (ho : o.op = .call { callee := .builtin .append, args := #[s, x], argTypes := #[23, 23] })
    (w0 : World) (v vi : Value) (L : List Hk) (e : Hk) (cs : Array Value) (hs : a.eval s = v) (hx : a.eval x = .slice (some ⟨W.heap.size, 0, none⟩) 1 1) (hc : cs = (hkC e vi).toArray)
    (hown : OwS W w0.heap.size v L) (hvi : LnB W w0.heap.size (e, vi)) (hlen : L.length + 1 ≤ 1000000000) (hb : Below w0.heap.size w0 W)
    (h : ∀ v' w', OwS w' w0.heap.size v' (L ++ [e]) → Below w0.heap.size w0 w' → K (a.put o.dst v') w') : o.wp Try.prog a (W.alloc (.cells cs tH)) K Q := by
  obtain ⟨i0, hi0, hz0, hz1, hz2⟩ := info_parts infoHk
  subst hc
  obtain ⟨V, hV, hr, hi⟩ := hown
  refine wp_append_own _ s x 23 ho w0.heap.size tH i0 (.agg #[.int .i64 0, .int .i64 0, .int .i64 0, .int .i64 0, .slice none 0 0]) 5 56 Try.underlying23 hi0 hz0 hz1 hz2 rfl (by omega) v L.length (V.flatMap hkP) hs (World.ownsRow.alloc hr _)
    ⟨W.heap.size, 0, none⟩ 1 1 (hkC e vi) hx rfl (fun j u hu => ?_) ?_ (by unfold maxLen; omega) (by omega) (by have := hb.size; simp; omega) (fun v' w' h1 h2 _ => ?_)
  · rw [Addr.add_mid, (Row.fresh W tH (hkC e vi).toArray).cell]
    simpa using hu
  · intro u hu
    simp only [hkC, List.mem_cons, List.not_mem_nil, or_false] at hu
    rcases hu with rfl | rfl | rfl | rfl | rfl
    · rfl
    · rfl
    · rfl
    · rfl
    · exact hvi.one
  · have hg := grownBy_back _ h2
    have hbw : Below w0.heap.size W w' := ⟨hg.os, hg.tape, hg.output, hg.size, fun k hk => hg.block k (Nat.lt_of_lt_of_le hk hb.size) (fun e => by
      have := (World.ownsRow.lt hr k e.symm).1
      omega)⟩
    have hgr := OwS.grow (w' := w') V [(e, vi)] hV hi (fun p hp => by rw [List.mem_singleton.1 hp]; exact hvi) (by simpa [hkP] using h1) hbw
    exact h v' w' hgr (hb.trans hbw)
theorem wpList_pushS {ops : Array Oper} {rest : List Oper} {o : Oper} {a : Act} {Q : Exit → Act → World → Prop} {W : World} (hgd : o.guard = none) (s x : Operand)
    (ho : o.op = .call { callee := .builtin .append, args := #[s, x], argTypes := #[23, 23] })
    (w0 : World) (v vi : Value) (L : List Hk) (e : Hk) (cs : Array Value) (hs : a.eval s = v) (hx : a.eval x = .slice (some ⟨W.heap.size, 0, none⟩) 1 1) (hc : cs = (hkC e vi).toArray)
    (hown : OwS W w0.heap.size v L) (hvi : LnB W w0.heap.size (e, vi)) (hlen : L.length + 1 ≤ 1000000000) (hb : Below w0.heap.size w0 W)
    (h : ∀ v' w', OwS w' w0.heap.size v' (L ++ [e]) → Below w0.heap.size w0 w' → wpList Try.prog ops Q rest (a.put o.dst v') w') : wpList Try.prog ops Q (o :: rest) a (W.alloc (.cells cs tH)) :=
  wpList_plain hgd fun _ hK => wp_pushS s x ho w0 v vi L e cs hs hx hc hown hvi hlen hb fun v' w' h1 h2 => hK _ _ (h v' w' h1 h2)
end Go.Proofs.Ytfmmececocilhaa.Ap
namespace Go.Proofs.Ytfmmececocilhaa.Ap
open Go Go.RowKit Kt Lw Li Df Hu

set_option maxRecDepth 100000 in
set_option maxHeartbeats 2000000 in
theorem behind_long (n k q : Nat) (A A' A2 : Option Addr) (c c' c2 : Nat) (w : World) (f : Bool) (hF : ∀ w1, Below w.heap.size w w1 → Calls Try.prog 11 #[.slice A2 q c2] w1 fun y w' => y = .returned (.bool f) ∧ Below w1.heap.size w1 w') (h : f = false ∨ 24 < n ∨ 20 < k) :
    Calls Try.prog 8 #[.slice A n c, .slice A' k c', .slice A2 q c2] w fun y w' => y = .returned (.bool true) ∧ Below w.heap.size w w' := by
  have Haw := hide (awake_any w)
  have HF := hide hF
  have Hh := hide h
  clear hF h
  cases f with
  | false =>
    go_enter Try.func8, Try.ntmps8
    go_wp2_with fail
    refine Haw.out.mono ?_
    rintro y w1 ⟨rfl, hb1⟩
    go_wp2_with fail
    refine (HF.out w1 hb1).mono ?_
    rintro y w2 ⟨rfl, hb2⟩
    have hb3 := hb1.trans (hb2.mono hb1.size)
    clear hb1 hb2
    go_wp2
    go_ret
    exact ⟨rfl, hb3⟩
  | true =>
    by_cases h1 : 24 < n
    · have d1 : decide ((24 : Int) < (n : Int)) = true := decide_eq_true (by omega)
      go_enter Try.func8, Try.ntmps8
      go_wp2_with fail
      refine Haw.out.mono ?_
      rintro y w1 ⟨rfl, hb1⟩
      go_wp2_with fail
      refine (HF.out w1 hb1).mono ?_
      rintro y w2 ⟨rfl, hb2⟩
      have hb3 := hb1.trans (hb2.mono hb1.size)
      clear hb1 hb2
      go_wp2
      go_ret
      exact ⟨rfl, hb3⟩
    · have d1 : decide ((24 : Int) < (n : Int)) = false := decide_eq_false (by omega)
      have d2 : decide ((20 : Int) < (k : Int)) = true := by
        rcases Hh.out with h | h | h
        · cases h
        · omega
        · exact decide_eq_true (by omega)
      go_enter Try.func8, Try.ntmps8
      go_wp2_with fail
      refine Haw.out.mono ?_
      rintro y w1 ⟨rfl, hb1⟩
      go_wp2_with fail
      refine (HF.out w1 hb1).mono ?_
      rintro y w2 ⟨rfl, hb2⟩
      have hb3 := hb1.trans (hb2.mono hb1.size)
      clear hb1 hb2
      go_wp2
      go_ret
      exact ⟨rfl, hb3⟩
set_option maxRecDepth 100000 in
set_option maxHeartbeats 2000000 in
theorem lawBehind_any (a b : Ls) (L : List Hk) (A A' A2 : Option Addr) (c c' c2 : Nat) (P P' : Nat → Prop) (w : World) (hs : Vs w P A c (texts a)) (hs' : Vs w P' A' c' (texts b)) (hk : Hks w A2 c2 L) (hl : L.length ≤ 9223372036854775807) :
    Calls Try.prog 8 #[.slice A a.length c, .slice A' b.length c', .slice A2 L.length c2] w fun y w' => y = .returned (.bool true) ∧ Below w.heap.size w w' := by
  have hF := fun w1 (hb1 : Below w.heap.size w w1) => Hu.few_any L A2 c2 w1 (hk.keep hb1) hl
  by_cases hlen : fewH L = false ∨ 24 < a.length ∨ 20 < b.length
  · exact behind_long a.length b.length L.length A A' A2 c c' c2 w _ hF hlen
  have hf : fewH L = true := by
    cases hq : fewH L with
    | true => rfl
    | false => exact absurd (.inl hq) hlen
  have ha : a.length ≤ 24 := by omega
  have hb : b.length ≤ 20 := by omega
  obtain ⟨f1, f2⟩ := few_all hf
  rw [hf] at hF
  have HF := hide hF
  have Haw := hide (awake_any w)
  have HAp := hide (fun (w1 : World) (hb1 : Below w.heap.size w w1) => apply_any a L A A2 c c2 _ w1 (Lw.Vs.below hs.bound hb1) (hk.keep hb1) (by omega) (fun h hh => (f1 h hh).1) (by omega))
  have HAp2 := hide (fun (w1 : World) (Ax : Option Addr) (cx : Nat) (hb1 : Below w.heap.size w w1) (hv : Vs w1 (fun b => b < w1.heap.size) Ax cx (texts (a ++ b))) => apply_any (a ++ b) L Ax A2 cx c2 _ w1 hv (hk.keep hb1) (by omega) (fun h hh => (f1 h hh).1) (by rw [List.length_append]; omega))
  have Hs := hide hs.bound
  have Hs' := hide hs'.bound
  have Hap := hide (appl_cases a L)
  have Hok := hide (fun x (h : appl a L = (x, 0)) => (show appl (a ++ b) L = (x ++ b, 0) ∧ x.length ≤ 400 from by
    obtain ⟨h1, h2⟩ := appl_ok h
    refine ⟨appl_yes h1 (does_behind L 0 a x b h2), ?_⟩
    have := does_len L 0 a x h2 fun h hh => (f1 h hh).2.1
    omega))
  obtain ⟨n, hn⟩ : ∃ n, n = a.length := ⟨_, rfl⟩
  obtain ⟨k, hk'⟩ : ∃ k, k = b.length := ⟨_, rfl⟩
  obtain ⟨q, hq⟩ : ∃ q, q = L.length := ⟨_, rfl⟩
  rw [← hn] at HAp ha ⊢
  rw [← hk'] at hb ⊢
  rw [← hq] at HF HAp HAp2 ⊢
  have Hn := hide hn
  have Hk := hide hk'
  have d1 : decide ((24 : Int) < (n : Int)) = false := decide_eq_false (by omega)
  have d2 : decide ((20 : Int) < (k : Int)) = false := decide_eq_false (by omega)
  generalize appl a L = R at *
  generalize appl (a ++ b) L = R2 at *
  clear hs hs' hk hl hF hlen hf f1 f2 hn hk' hq
  rcases Hap.out with ⟨x, rfl⟩ | ⟨e, rfl, he⟩
  · obtain ⟨rfl, hxl⟩ := Hok.out x rfl
    clear Hok Hap
    go_enter Try.func8, Try.ntmps8
    go_wp2_with fail
    refine Haw.out.mono ?_
    rintro y w1 ⟨rfl, hb1⟩
    have Hb1 := hide hb1
    clear hb1 Haw
    go_wp2_with fail
    refine (HF.out w1 Hb1.out).mono ?_
    rintro y w2 ⟨rfl, hb2⟩
    have Hb2 := hide (Hb1.out.trans (hb2.mono Hb1.out.size))
    clear hb2 Hb1 HF
    go_wp2_with fail
    refine (HAp.out w2 Hb2.out).mono ?_
    rintro y w3 ⟨v3, rfl, hv3, hb3⟩
    obtain ⟨A3, c3, rfl, hx3⟩ := hv3.vs
    have Hb3 := hide (Hb2.out.trans (hb3.mono Hb2.out.size))
    have Hx3 := hide hx3.bound
    obtain ⟨m, hm⟩ : ∃ m, m = x.length := ⟨_, rfl⟩
    rw [← hm] at hxl
    have Hm := hide hm
    simp only [← hm]
    clear hm
    clear hv3 hb3 hx3 Hb2 HAp
    go_wp2_with (first
      | (refine wpList_catT rfl (.tmp 39) (.tmp 40) 22 rfl Try.underlying22 infoText w3.heap.size w3 _ [] a _ A c rfl (by rw [← Hn.out]; rfl) (OwT.lit w3 w3.heap.size 9 [] _ rfl (Nat.le_refl _) (by simp [maxLen])) (Lw.Vs.below Hs.out (Hb3.out.alloc Hb3.out.size _)) (by rw [← Hn.out]; simp; omega) ((Below.refl _ _).alloc (Nat.le_refl _) _) (by simp) ?_
         intro v4 w4 hown4 hb4 _)
      | (refine wpList_catT rfl (.tmp 41) (.tmp 42) 22 rfl Try.underlying22 infoText w3.heap.size w3 _ a b _ A' c' rfl (by rw [← Hk.out]; rfl) hown4 (Lw.Vs.below Hs'.out (Hb3.out.trans (hb4.mono Hb3.out.size))) (by rw [← Hn.out, ← Hk.out]; omega) hb4 hb4.size ?_
         intro v5 w5 hown5 hb5 _))
    obtain ⟨A5, c5, rfl, hv5⟩ := hown5.vs
    have Hb5 := hide (Hb3.out.trans (hb5.mono Hb3.out.size))
    have Hx5 := hide (vs_keep Hx3.out hb5)
    have HA5 := hide (HAp2.out w5 A5 c5 Hb5.out hv5.bound)
    clear hown4 hb4 hown5 hb5 hv5 Hb3 Hx3 HAp2
    refine HA5.out.mono ?_
    rintro y w6 ⟨v6, rfl, hv6, hb6⟩
    obtain ⟨A6, c6, rfl, hx6⟩ := hv6.vs
    have Hb6 := hide (Hb5.out.trans (hb6.mono Hb5.out.size))
    have Hx6 := hide (vs_keep Hx5.out hb6)
    have Hy6 := hide hx6.bound
    clear hv6 hb6 hx6 Hb5 Hx5 HA5
    have HT := hide (fun (w8 : World) (A8 : Option Addr) (c8 : Nat) (h1 : Vs w8 (fun b => b < w8.heap.size) A6 c6 (texts (x ++ b))) (h2 : Vs w8 (fun b => b < w8.heap.size) A8 c8 (texts (x ++ b))) => texts_any (x ++ b) (x ++ b) A6 A8 c6 c8 _ _ w8 h1 h2 (by rw [List.length_append, ← Hm.out, ← Hk.out]; omega))
    rw [decide_eq_true rfl] at HT
    simp only [List.length_append, ← Hm.out, ← Hk.out] at HT ⊢
    go_wp2_with (first
      | (refine wpList_catTg rfl (.tmp 55) (.tmp 56) 22 rfl Try.underlying22 infoText w6.heap.size w6 _ [] x _ A3 c3 rfl (by rw [← Hm.out]; rfl) (OwT.lit w6 w6.heap.size 9 [] _ rfl (Nat.le_refl _) (by simp [maxLen])) (Lw.Vs.below Hx6.out ((Below.refl _ _).alloc (Nat.le_refl _) _)) (by rw [← Hm.out]; simp; omega) ((Below.refl _ _).alloc (Nat.le_refl _) _) (by simp) ?_
         intro v7 w7 hown7 hb7 _)
      | (refine wpList_catTg rfl (.tmp 57) (.tmp 58) 22 rfl Try.underlying22 infoText w6.heap.size w6 _ x b _ A' c' rfl (by rw [← Hk.out]; rfl) hown7 (Lw.Vs.below Hs'.out (Hb6.out.trans (hb7.mono Hb6.out.size))) (by rw [← Hm.out, ← Hk.out]; omega) hb7 hb7.size ?_
         intro v8 w8 hown8 hb8 _))
    obtain ⟨A8, c8, rfl, hv8⟩ := hown8.vs
    have HT8 := hide (HT.out w8 A8 c8 (vs_keep Hy6.out hb8) hv8.bound)
    have Hb8 := hide (Hb6.out.trans (hb8.mono Hb6.out.size))
    simp only [List.length_append, ← Hm.out, ← Hk.out]
    clear hown7 hb7 hown8 hb8 hv8 HT Hb6 Hx6 Hy6
    refine HT8.out.mono ?_
    rintro y w9 ⟨rfl, hb9⟩
    have Hb9 := hide (Hb8.out.trans (hb9.mono Hb8.out.size))
    clear hb9 HT8 Hb8
    go_wp2
    go_ret
    exact ⟨rfl, Hb9.out⟩
  · obtain ⟨ei, hei⟩ : ∃ ei : Int, ei = (e : Int) := ⟨_, rfl⟩
    have e1 : (ei == 0) = false := by rw [beq_eq_false_iff_ne]; omega
    have e2 : (ei != 0) = true := by rw [bne_iff_ne]; omega
    simp only [← hei] at HAp
    clear Hok Hap hei he HAp2
    go_enter Try.func8, Try.ntmps8
    go_wp2_with fail
    refine Haw.out.mono ?_
    rintro y w1 ⟨rfl, hb1⟩
    have Hb1 := hide hb1
    clear hb1 Haw
    go_wp2_with fail
    refine (HF.out w1 Hb1.out).mono ?_
    rintro y w2 ⟨rfl, hb2⟩
    have Hb2 := hide (Hb1.out.trans (hb2.mono Hb1.out.size))
    clear hb2 Hb1 HF
    go_wp2_with fail
    refine (HAp.out w2 Hb2.out).mono ?_
    rintro y w3 ⟨v3, rfl, hv3, hb3⟩
    obtain ⟨A3, c3, rfl, _⟩ := hv3.vs
    have Hb3 := hide (Hb2.out.trans (hb3.mono Hb2.out.size))
    clear hv3 hb3 Hb2 HAp
    go_wp2
    go_ret
    exact ⟨rfl, Hb3.out⟩
end Go.Proofs.Ytfmmececocilhaa.Ap
namespace Go.Proofs.Ytfmmececocilhaa.Ap
open Go Go.RowKit Kt Lw Li Df Hu

set_option maxRecDepth 100000 in
set_option maxHeartbeats 2000000 in
theorem ahead_long (n k q : Nat) (A A' A2 : Option Addr) (c c' c2 : Nat) (w : World) (f : Bool) (hF : ∀ w1, Below w.heap.size w w1 → Calls Try.prog 11 #[.slice A2 q c2] w1 fun y w' => y = .returned (.bool f) ∧ Below w1.heap.size w1 w') (h : f = false ∨ 24 < n ∨ 20 < k) :
    Calls Try.prog 9 #[.slice A n c, .slice A' k c', .slice A2 q c2] w fun y w' => y = .returned (.bool true) ∧ Below w.heap.size w w' := by
  have Haw := hide (awake_any w)
  have HF := hide hF
  have Hh := hide h
  clear hF h
  cases f with
  | false =>
    go_enter Try.func9, Try.ntmps9
    go_wp2_with fail
    refine Haw.out.mono ?_
    rintro y w1 ⟨rfl, hb1⟩
    go_wp2_with fail
    refine (HF.out w1 hb1).mono ?_
    rintro y w2 ⟨rfl, hb2⟩
    have hb3 := hb1.trans (hb2.mono hb1.size)
    clear hb1 hb2
    go_wp2
    go_ret
    exact ⟨rfl, hb3⟩
  | true =>
    by_cases h1 : 24 < n
    · have d1 : decide ((24 : Int) < (n : Int)) = true := decide_eq_true (by omega)
      go_enter Try.func9, Try.ntmps9
      go_wp2_with fail
      refine Haw.out.mono ?_
      rintro y w1 ⟨rfl, hb1⟩
      go_wp2_with fail
      refine (HF.out w1 hb1).mono ?_
      rintro y w2 ⟨rfl, hb2⟩
      have hb3 := hb1.trans (hb2.mono hb1.size)
      clear hb1 hb2
      go_wp2
      go_ret
      exact ⟨rfl, hb3⟩
    · have d1 : decide ((24 : Int) < (n : Int)) = false := decide_eq_false (by omega)
      have d2 : decide ((20 : Int) < (k : Int)) = true := by
        rcases Hh.out with h | h | h
        · cases h
        · omega
        · exact decide_eq_true (by omega)
      go_enter Try.func9, Try.ntmps9
      go_wp2_with fail
      refine Haw.out.mono ?_
      rintro y w1 ⟨rfl, hb1⟩
      go_wp2_with fail
      refine (HF.out w1 hb1).mono ?_
      rintro y w2 ⟨rfl, hb2⟩
      have hb3 := hb1.trans (hb2.mono hb1.size)
      clear hb1 hb2
      go_wp2
      go_ret
      exact ⟨rfl, hb3⟩
set_option maxRecDepth 100000 in
set_option maxHeartbeats 2000000 in
theorem lawAhead_any (a b : Ls) (L : List Hk) (A A' A2 : Option Addr) (c c' c2 : Nat) (P P' : Nat → Prop) (w : World) (hs : Vs w P A c (texts a)) (hs' : Vs w P' A' c' (texts b)) (hk : Hks w A2 c2 L) (hl : L.length ≤ 9223372036854775807) :
    Calls Try.prog 9 #[.slice A a.length c, .slice A' b.length c', .slice A2 L.length c2] w fun y w' => y = .returned (.bool true) ∧ Below w.heap.size w w' := by
  have hF := fun w1 (hb1 : Below w.heap.size w w1) => Hu.few_any L A2 c2 w1 (hk.keep hb1) hl
  by_cases hlen : fewH L = false ∨ 24 < a.length ∨ 20 < b.length
  · exact ahead_long a.length b.length L.length A A' A2 c c' c2 w _ hF hlen
  have hf : fewH L = true := by
    cases hq : fewH L with
    | true => rfl
    | false => exact absurd (.inl hq) hlen
  have ha : a.length ≤ 24 := by omega
  have hb : b.length ≤ 20 := by omega
  obtain ⟨f1, f2⟩ := few_all hf
  rw [hf] at hF
  have HF := hide hF
  have Haw := hide (awake_any w)
  have HAp := hide (fun (w1 : World) (hb1 : Below w.heap.size w w1) => apply_any a L A A2 c c2 _ w1 (Lw.Vs.below hs.bound hb1) (hk.keep hb1) (by omega) (fun h hh => (f1 h hh).1) (by omega))
  have HAp2 := hide (fun (w1 : World) (Ax Am : Option Addr) (cx cm : Nat) (hv : Vs w1 (fun b => b < w1.heap.size) Ax cx (texts (b ++ a))) (hm : Hks w1 Am cm (L.map (shH b.length))) => apply_any (b ++ a) (L.map (shH b.length)) Ax Am cx cm _ w1 hv hm (by rw [List.length_map]; omega) (fun h hh => by
    obtain ⟨g, hg, rfl⟩ := List.mem_map.1 hh
    obtain ⟨⟨s1, s2, s3, s4, s5⟩, t1, t2, t3⟩ := f1 g hg
    exact ⟨⟨by simp only [shH]; omega, by simp only [shH]; omega⟩, s2, ⟨by simp only [shH]; omega, by simp only [shH]; omega⟩, s4, s5⟩) (by rw [List.length_append]; omega))
  have Hbd := hide (fun h hh => (f1 h hh).2)
  have Hs := hide hs.bound
  have Hs' := hide hs'.bound
  have Hap := hide (appl_cases a L)
  have Hok := hide (fun x (h : appl a L = (x, 0)) => (show appl (b ++ a) (L.map (shH b.length)) = (b ++ x, 0) ∧ x.length ≤ 400 from by
    obtain ⟨h1, h2⟩ := appl_ok h
    refine ⟨appl_yes (okL_low _ _ 0 0 (okL_shift b.length L 0 0 h1) (by omega)) (does_ahead b L 0 0 a x h1 h2), ?_⟩
    have := does_len L 0 a x h2 fun h hh => (f1 h hh).2.1
    omega))
  obtain ⟨n, hn⟩ : ∃ n, n = a.length := ⟨_, rfl⟩
  obtain ⟨k, hk'⟩ : ∃ k, k = b.length := ⟨_, rfl⟩
  obtain ⟨q, hq⟩ : ∃ q, q = L.length := ⟨_, rfl⟩
  rw [← hn] at HAp ha ⊢
  rw [← hk'] at hb ⊢
  rw [← hq] at HF HAp ⊢
  rw [← hk'] at HAp2 Hok
  have Hn := hide hn
  have Hk := hide hk'
  have Hq := hide hq
  have hq12 : q ≤ 12 := by omega
  have HKs := hide hk
  have d1 : decide ((24 : Int) < (n : Int)) = false := decide_eq_false (by omega)
  have d2 : decide ((20 : Int) < (k : Int)) = false := decide_eq_false (by omega)
  generalize appl a L = R at *
  generalize appl (b ++ a) (L.map (shH k)) = R2 at *
  clear hs hs' hk hl hF hlen hf f1 f2 hn hk' hq
  rcases Hap.out with ⟨x, rfl⟩ | ⟨e, rfl, he⟩
  · obtain ⟨rfl, hxl⟩ := Hok.out x rfl
    clear Hok Hap
    go_enter Try.func9, Try.ntmps9
    go_wp2_with fail
    refine Haw.out.mono ?_
    rintro y w1 ⟨rfl, hb1⟩
    have Hb1 := hide hb1
    clear hb1 Haw
    go_wp2_with fail
    refine (HF.out w1 Hb1.out).mono ?_
    rintro y w2 ⟨rfl, hb2⟩
    have Hb2 := hide (Hb1.out.trans (hb2.mono Hb1.out.size))
    clear hb2 Hb1 HF
    go_wp2_with fail
    refine (HAp.out w2 Hb2.out).mono ?_
    rintro y w3 ⟨v3, rfl, hv3, hb3⟩
    obtain ⟨A3, c3, rfl, hx3⟩ := hv3.vs
    have Hb3 := hide (Hb2.out.trans (hb3.mono Hb2.out.size))
    have Hx3 := hide hx3.bound
    obtain ⟨m, hm⟩ : ∃ m, m = x.length := ⟨_, rfl⟩
    rw [← hm] at hxl
    have Hm := hide hm
    simp only [← hm, show ((0 : Nat) : Int) = 0 from rfl]
    clear hm
    clear hv3 hb3 hx3 Hb2 HAp
    have HKs3 := hide (HKs.out.keep Hb3.out)
    go_wp2
    go_loopw [11, 12] (fun v i wr => ∃ (j : Nat) (v0 : Value), v0 = v ∧ j ≤ q ∧ i = .int .i64 j ∧ Hid (OwS wr w3.heap.size v0 ((L.take j).map (shH k))) ∧ Hid (Below w3.heap.size w3 wr)) (fun _ i _ => q - (intOf i).toNat)
    case atStart => exact ⟨0, _, rfl, Nat.zero_le _, rfl, hide (OwS.nil _ _), hide (Below.refl _ _)⟩
    case round =>
      obtain ⟨j, v, rfl, hj, rfl, Hown, Hbr⟩ := hrel
      by_cases hlt : j < q
      · obtain ⟨b', o, h, A', c', hA, hke, ⟨e0, e1, e2, e3, e4⟩, hv⟩ := HKs3.out.at Hbr.out (k := j) (by have := Hq.out; omega)
        subst hA
        have hbd := Hbd.out h (List.mem_of_getElem? hke)
        have Htk := hide (show (L.take (j + 1)).map (shH k) = (L.take j).map (shH k) ++ [shH k h] by rw [List.take_add_one, hke]; simp)
        have hlk : ((L.take j).map (shH k)).length = j := by rw [List.length_map, List.length_take]; have := Hq.out; omega
        generalize (L.take j).map (shH k) = done at *
        have Hsh := hide (show shH k h = ⟨h.a + k, h.an, h.b + k, h.bn, h.lines⟩ from rfl)
        have Hln := hide (show Vs w3 (fun b => b < w3.heap.size) A' c' (texts h.lines) from hv)
        obtain ⟨g, hg⟩ : ∃ g, g = wr.heap.size := ⟨_, rfl⟩
        obtain ⟨za, hza⟩ : ∃ z, z = h.a := ⟨_, rfl⟩
        obtain ⟨zan, hzan⟩ : ∃ z, z = h.an := ⟨_, rfl⟩
        obtain ⟨zb, hzb⟩ : ∃ z, z = h.b := ⟨_, rfl⟩
        obtain ⟨zbn, hzbn⟩ : ∃ z, z = h.bn := ⟨_, rfl⟩
        obtain ⟨nh, hnh⟩ : ∃ z, z = h.lines.length := ⟨_, rfl⟩
        rw [← hza] at e0 hbd Hsh
        rw [← hzan] at e1 Hsh
        rw [← hzb] at e2 hbd Hsh
        rw [← hzbn] at e3 Hsh
        rw [← hnh] at e4
        have Hnh := hide hnh
        obtain ⟨t1, ⟨t2, t3⟩, t4, t5⟩ := hbd
        clear hke hv hza hzan hzb hzbn hnh
        obtain ⟨w6, hw6⟩ : ∃ w6, w6 = wr.alloc (.cells #[.int .i64 (za + k), .int .i64 zan, .int .i64 (zb + k), .int .i64 zbn, .slice A' nh c'] tH) := ⟨_, rfl⟩
        have hb6 : Below wr.heap.size wr w6 := by rw [hw6]; exact (Below.refl _ wr).alloc (Nat.le_refl _) _
        have Hsz6 := hide (show w6.heap.size = wr.heap.size + 1 by rw [hw6]; exact World.size_alloc wr _)
        have Hb6 := hide (Hbr.out.trans (hb6.mono Hbr.out.size))
        have Hown6 := hide (OwS.keep Hown.out hb6 Hbr.out.size)
        have Hlnb := hide (show LnB w6 w3.heap.size (⟨za + k, zan, zb + k, zbn, h.lines⟩, .slice A' nh c') from ⟨A', c', by rw [Hnh.out], Lw.Vs.move Hln.out fun b hb _ => Hb6.out.block b hb⟩)
        have HW6 := hide hw6
        have hwa : IntKind.i64.wrap (za + (k : Int)) = za + k := IntWalk.i64_in _ (by omega)
        have hwb : IntKind.i64.wrap (zb + (k : Int)) = zb + k := IntWalk.i64_in _ (by omega)
        clear hw6 hb6 Hown Hbr hg
        go_wp2_with (rw [← HW6.out]; refine wpList_pushS rfl (.tmp 63) (.tmp 65) rfl w3 v (.slice A' nh c') done ⟨za + k, zan, zb + k, zbn, h.lines⟩ _ rfl (by rw [Hsz6.out]; rfl) rfl Hown6.out Hlnb.out (by omega) Hb6.out ?_; intro v7 w7 hown7 hb7)
        exact ⟨⟨j + 1, v7, rfl, by omega, by go_num, hide (by rw [Htk.out, Hsh.out]; exact hown7), hide hb7⟩, by simp [intOf]; omega⟩
      · obtain rfl : j = q := by omega
        have hown := Hown.out
        rw [Hq.out, List.take_length] at hown
        obtain ⟨Am, cm, rfl, hmk⟩ := hown.hks
        have Hmk := hide hmk
        have Hb3' := hide (Hb3.out.trans (Hbr.out.mono Hb3.out.size))
        have Hx3' := hide (vs_keep Hx3.out Hbr.out)
        have hml : (L.map (shH k)).length = j := by rw [List.length_map, Hq.out]
        rw [hml]
        have Hml := hide hml
        clear hown hmk hml Hown Hbr Hx3 HKs3
        go_wp2_with (first
          | (refine wpList_catT rfl (.tmp 68) (.tmp 69) 22 rfl Try.underlying22 infoText wr.heap.size wr _ [] b _ A' c' rfl (by rw [← Hk.out]; rfl) (OwT.lit wr wr.heap.size 9 [] _ rfl (Nat.le_refl _) (by simp [maxLen])) (Lw.Vs.below Hs'.out (Hb3'.out.alloc Hb3'.out.size _)) (by rw [← Hk.out]; simp; omega) ((Below.refl _ _).alloc (Nat.le_refl _) _) (by simp) ?_
             intro v4 w4 hown4 hb4 _)
          | (refine wpList_catT rfl (.tmp 70) (.tmp 71) 22 rfl Try.underlying22 infoText wr.heap.size wr _ b a _ A c rfl (by rw [← Hn.out]; rfl) hown4 (Lw.Vs.below Hs.out (Hb3'.out.trans (hb4.mono Hb3'.out.size))) (by rw [← Hn.out, ← Hk.out]; omega) hb4 hb4.size ?_
             intro v5 w5 hown5 hb5 _))
        obtain ⟨A5, c5, rfl, hv5⟩ := hown5.vs
        have Hb5 := hide (Hb3'.out.trans (hb5.mono Hb3'.out.size))
        have Hx5 := hide (vs_keep Hx3'.out hb5)
        have HA5 := hide (HAp2.out w5 A5 Am c5 cm hv5.bound (Hmk.out.keep hb5))
        clear hown4 hb4 hown5 hb5 hv5 Hb3' Hx3' HAp2
        rw [Hml.out] at HA5
        refine HA5.out.mono ?_
        rintro y w6 ⟨v6, rfl, hv6, hb6⟩
        obtain ⟨A6, c6, rfl, hx6⟩ := hv6.vs
        have Hb6 := hide (Hb5.out.trans (hb6.mono Hb5.out.size))
        have Hx6 := hide (vs_keep Hx5.out hb6)
        have Hy6 := hide hx6.bound
        clear hv6 hb6 hx6 Hb5 Hx5 HA5
        have HT := hide (fun (w8 : World) (A8 : Option Addr) (c8 : Nat) (h1 : Vs w8 (fun b => b < w8.heap.size) A6 c6 (texts (b ++ x))) (h2 : Vs w8 (fun b => b < w8.heap.size) A8 c8 (texts (b ++ x))) => texts_any (b ++ x) (b ++ x) A6 A8 c6 c8 _ _ w8 h1 h2 (by rw [List.length_append, ← Hm.out, ← Hk.out]; omega))
        rw [decide_eq_true rfl] at HT
        simp only [List.length_append, ← Hm.out, ← Hk.out] at HT ⊢
        go_wp2_with (first
          | (refine wpList_catTg rfl (.tmp 84) (.tmp 85) 22 rfl Try.underlying22 infoText w6.heap.size w6 _ [] b _ A' c' rfl (by rw [← Hk.out]; rfl) (OwT.lit w6 w6.heap.size 9 [] _ rfl (Nat.le_refl _) (by simp [maxLen])) (Lw.Vs.below Hs'.out (Hb6.out.alloc Hb6.out.size _)) (by rw [← Hk.out]; simp; omega) ((Below.refl _ _).alloc (Nat.le_refl _) _) (by simp) ?_
             intro v7 w7 hown7 hb7 _)
          | (refine wpList_catTg rfl (.tmp 86) (.tmp 87) 22 rfl Try.underlying22 infoText w6.heap.size w6 _ b x _ A3 c3 rfl (by rw [← Hm.out]; rfl) hown7 (Lw.Vs.below Hx6.out hb7) (by rw [← Hm.out, ← Hk.out]; omega) hb7 hb7.size ?_
             intro v8 w8 hown8 hb8 _))
        obtain ⟨A8, c8, rfl, hv8⟩ := hown8.vs
        have HT8 := hide (HT.out w8 A8 c8 (vs_keep Hy6.out hb8) hv8.bound)
        have Hb8 := hide (Hb6.out.trans (hb8.mono Hb6.out.size))
        simp only [List.length_append, ← Hm.out, ← Hk.out]
        clear hown7 hb7 hown8 hb8 hv8 HT Hb6 Hx6 Hy6
        refine HT8.out.mono ?_
        rintro y w9 ⟨rfl, hb9⟩
        have Hb9 := hide (Hb8.out.trans (hb9.mono Hb8.out.size))
        clear hb9 HT8 Hb8
        go_wp2
        go_ret
        exact ⟨rfl, Hb9.out⟩
  · obtain ⟨ei, hei⟩ : ∃ ei : Int, ei = (e : Int) := ⟨_, rfl⟩
    have e1 : (ei == 0) = false := by rw [beq_eq_false_iff_ne]; omega
    have e2 : (ei != 0) = true := by rw [bne_iff_ne]; omega
    simp only [← hei] at HAp
    clear Hok Hap hei he HAp2
    go_enter Try.func9, Try.ntmps9
    go_wp2_with fail
    refine Haw.out.mono ?_
    rintro y w1 ⟨rfl, hb1⟩
    have Hb1 := hide hb1
    clear hb1 Haw
    go_wp2_with fail
    refine (HF.out w1 Hb1.out).mono ?_
    rintro y w2 ⟨rfl, hb2⟩
    have Hb2 := hide (Hb1.out.trans (hb2.mono Hb1.out.size))
    clear hb2 Hb1 HF
    go_wp2_with fail
    refine (HAp.out w2 Hb2.out).mono ?_
    rintro y w3 ⟨v3, rfl, hv3, hb3⟩
    obtain ⟨A3, c3, rfl, _⟩ := hv3.vs
    have Hb3 := hide (Hb2.out.trans (hb3.mono Hb2.out.size))
    clear hv3 hb3 Hb2 HAp
    go_wp2
    go_ret
    exact ⟨rfl, Hb3.out⟩
end Go.Proofs.Ytfmmececocilhaa.Ap
