/-
  The reference of two trees, together: the tree and what clashes.
-/
import Derived.BigQuiet
import Derived.Test.YtghnieddokhagaaNC
import Derived.Test.YtghnieddokhagaaND
namespace Go.Proofs.Ytghnieddokhagaa.Tr
open Go Go.RowKit Kt Lw Li Lx Df Al

theorem outs_take {h : Bs → Bs × Bool × Bool} {l : List Bs} {k : Nat} (hk : k < l.length) : outs h (l.take (k + 1)) = outs h (l.take k) ++ (if (h l[k]).2.1 then [⟨l[k], (h l[k]).1⟩] else []) := by
  rw [List.take_succ_eq_append_getElem hk]
  generalize l[k] = p
  induction l.take k with
  | nil => rw [List.nil_append, outs, outs, List.nil_append]; split <;> rfl
  | cons q l ih =>
    rw [List.cons_append, outs, ih, outs]
    split
    · rw [List.cons_append]
    · rfl
theorem odds_take {h : Bs → Bs × Bool × Bool} {l : List Bs} {k : Nat} (hk : k < l.length) : odds h (l.take (k + 1)) = odds h (l.take k) ++ (if (h l[k]).2.2 then [l[k]] else []) := by
  rw [List.take_succ_eq_append_getElem hk]
  unfold odds
  rw [List.filter_append]
  congr 1
  cases hc : (h l[k]).2.2 <;> simp [hc]
theorem outs_step {h : Bs → Bs × Bool × Bool} {l : List Bs} {k : Nat} {p x : Bs} {c : Bool} (hk : k < l.length) (hp : p = l.getD k []) (hx : h p = (x, true, c)) : outs h (l.take (k + 1)) = outs h (l.take k) ++ [⟨p, x⟩] := by
  rw [List.getD_eq_getElem?_getD, List.getElem?_eq_getElem hk] at hp
  obtain rfl : p = l[k] := hp
  rw [outs_take hk, hx]; rfl
theorem outs_stay {h : Bs → Bs × Bool × Bool} {l : List Bs} {k : Nat} {p x : Bs} {c : Bool} (hk : k < l.length) (hp : p = l.getD k []) (hx : h p = (x, false, c)) : outs h (l.take (k + 1)) = outs h (l.take k) := by
  rw [List.getD_eq_getElem?_getD, List.getElem?_eq_getElem hk] at hp
  obtain rfl : p = l[k] := hp
  rw [outs_take hk, hx]; exact List.append_nil _
theorem odds_step {h : Bs → Bs × Bool × Bool} {l : List Bs} {k : Nat} {p x : Bs} {b : Bool} (hk : k < l.length) (hp : p = l.getD k []) (hx : h p = (x, b, true)) : odds h (l.take (k + 1)) = odds h (l.take k) ++ [p] := by
  rw [List.getD_eq_getElem?_getD, List.getElem?_eq_getElem hk] at hp
  obtain rfl : p = l[k] := hp
  rw [odds_take hk, hx]; rfl
theorem odds_stay {h : Bs → Bs × Bool × Bool} {l : List Bs} {k : Nat} {p x : Bs} {b : Bool} (hk : k < l.length) (hp : p = l.getD k []) (hx : h p = (x, b, false)) : odds h (l.take (k + 1)) = odds h (l.take k) := by
  rw [List.getD_eq_getElem?_getD, List.getElem?_eq_getElem hk] at hp
  obtain rfl : p = l[k] := hp
  rw [odds_take hk, hx]; exact List.append_nil _
theorem take_more {t : List Fl} {L : List Fl} (h : L = t.take 1000) (e : Fl) : (t ++ [e]).take 1000 = if L.length < 1000 then L ++ [e] else L := by
  subst h
  rw [List.length_take]
  split
  · rw [List.take_of_length_le (by rw [List.length_append, List.length_singleton]; omega), List.take_of_length_le (by omega)]
  · rw [List.take_append_of_le_length (by omega)]
/-- a row of files and a row of texts are not the same -/
theorem own_two {w : World} {B B' : Nat} {v u : Value} {L : List Fl} {l : Ls} (h : OwF w B v L) (h2 : OwT w B' tS u l) {g : Nat} (hv : v.ownBlock = some g) (hu : u.ownBlock = some g) : False := by
  rcases h.2 with ⟨rfl, _⟩ | ⟨g1, cap, cur, rfl, _, e1, _⟩
  · cases hv
  · rcases h2.2 with ⟨rfl, _⟩ | ⟨g2, cap2, cur2, rfl, _, e2, _⟩
    · cases hu
    · simp only [Value.ownBlock, Option.some.injEq] at hv hu
      subst hv
      subst hu
      rw [e1] at e2
      simp only [Option.some.injEq, Obj.cells.injEq] at e2
      exact absurd e2.2.1 (by decide)
theorem owf_keep {w w' : World} {B B' : Nat} {v u : Value} {L : List Fl} {l : Ls} (h : OwF w B v L) (h2 : OwT w B' tS u l) (hg : w.grownBy w' u.ownBlock) : OwF w' B v L :=
  h.grown hg fun _ e e2 => own_two h h2 e e2.symm
theorem owt_keep {w w' : World} {B B' : Nat} {v u : Value} {L : List Fl} {l : Ls} (h2 : OwT w B' tS u l) (h : OwF w B v L) (hg : w.grownBy w' v.ownBlock) : OwT w' B' tS u l := by
  refine ⟨h2.1, ?_⟩
  rcases h2.2 with ⟨h3, h4⟩ | ⟨g, cap, cur, hv', h3, h4, h5⟩
  · exact .inl ⟨h3, h4⟩
  · exact .inr ⟨g, cap, cur, hv', h3, (hg.block g (Array.getElem?_eq_some_iff.1 h4).1 fun e => own_two h h2 e.symm (by rw [hv']; rfl)).trans h4, h5⟩
set_option maxRecDepth 100000 in
set_option maxHeartbeats 16000000 in
theorem rtrees_any (o a b : List Fl) (Ao Aa Ab : Option Addr) (co ca cb : Nat) (w : World) (ho : Fls w Ao co o) (ha : Fls w Aa ca a) (hb : Fls w Ab cb b) (no : o.length ≤ 1000000) (na : a.length ≤ 1000000) (nb : b.length ≤ 1000000)
    (lo : ∀ f ∈ o, f.text.length ≤ 600) (la : ∀ f ∈ a, f.text.length ≤ 600) (lb : ∀ f ∈ b, f.text.length ≤ 600) (pa : ∀ f ∈ a, f.path.length ≤ 100000) (pb : ∀ f ∈ b, f.path.length ≤ 100000) :
    Calls Try.prog 10 #[.slice Ao o.length co, .slice Aa a.length ca, .slice Ab b.length cb] w fun y w' =>
      ∃ v u, y = .returned (.tuple #[v, u]) ∧ OwF w' w.heap.size v (trees mgT o a b).1 ∧ OwT w' w.heap.size tS u (trees mgT o a b).2 ∧ Below w.heap.size w w' := by
  have HO := hide (fun (p : Bs) (wz : World) (hz : Below w.heap.size w wz) => rone_any o a b p Ao Aa Ab co ca cb wz (ho.keep hz) (ha.keep hz) (hb.keep hz) no na nb lo la lb)
  have HP := hide (rpaths_any a b Aa Ab ca cb w ha hb na nb pa pb)
  have HC := hide (fun p => one_clash mgT (o := o) (a := a) (b := b) (p := p))
  have HT := hide (show trees mgT o a b = ((outs (one mgT o a b) (both a b)).take 1000, odds (one mgT o a b) (both a b)) from rfl)
  have hN := both_len a b
  obtain ⟨ko, hko⟩ : ∃ ko, ko = o.length := ⟨_, rfl⟩
  obtain ⟨ka, hka⟩ : ∃ ka, ka = a.length := ⟨_, rfl⟩
  obtain ⟨kb, hkb⟩ : ∃ kb, kb = b.length := ⟨_, rfl⟩
  rw [← hko] at HO ⊢
  rw [← hka] at HO HP hN ⊢
  rw [← hkb] at HO HP hN ⊢
  have hN2 : (both a b).length ≤ 2000000 := by omega
  clear hko hka hkb no na nb lo la lb pa pb ho ha hb hN
  generalize trees mgT o a b = T at *
  generalize one mgT o a b = h at *
  generalize both a b = S at *
  go_enter Try.func10, Try.ntmps10
  go_wp2_with fail
  refine HP.out.mono ?_
  rintro y w1 ⟨vl, rfl, hl, hb1⟩
  obtain ⟨Al, cl, rfl, hvs⟩ := hl.vs
  have Hvs := hide hvs
  have Hb1 := hide hb1
  obtain ⟨N, hNl⟩ : ∃ N, N = S.length := ⟨_, rfl⟩
  rw [← hNl] at hN2 ⊢
  have HN := hide hNl
  clear hvs hl hb1 HP hNl
  go_wp2
  go_loopw [8, 9, 11] (fun s t i wr => ∃ (k : Nat) (v u : Value) (L : List Fl) (D : Ls), v = s ∧ u = t ∧ i = .int .i64 k ∧ k ≤ N ∧ L.length ≤ k ∧ D.length ≤ k ∧ Hid (L = (outs h (S.take k)).take 1000) ∧ Hid (D = odds h (S.take k)) ∧ Hid (OwF wr w1.heap.size v L) ∧ Hid (OwT wr w1.heap.size tS u D) ∧ Hid (Below w1.heap.size w1 wr)) (fun _ _ i _ => N - (intOf i).toNat)
  case atStart => exact ⟨0, _, _, [], [], rfl, rfl, rfl, Nat.zero_le _, Nat.le_refl _, Nat.le_refl _, hide rfl, hide rfl, hide (OwF.nil _ _), hide (OwT.nil _ _ _), hide (Below.refl _ _)⟩
  case round =>
    obtain ⟨k, v, u, L, D, rfl, rfl, rfl, hk, hLk, hDk, HL, HD, HoL, HoD, Hbe⟩ := hrel
    by_cases hlt : k < N
    · obtain ⟨b2, o2, rfl, c0⟩ := vs_at Hvs.out (k := k) (by have := HN.out; omega)
      have hkS : k < S.length := by have := HN.out; omega
      obtain ⟨p, hp⟩ : ∃ p, p = S.getD k [] := ⟨_, rfl⟩
      rw [← hp] at c0
      have C0 := hide c0
      have d0 := agr C0.out Hbe.out
      have HOp := hide (HO.out p)
      have hcp := HC.out p
      have H1 := hide (fun x c hx => outs_step (h := h) (x := x) (c := c) hkS hp hx)
      have H2 := hide (fun x c hx => outs_stay (h := h) (x := x) (c := c) hkS hp hx)
      have H3 := hide (fun x b hx => odds_step (h := h) (x := x) (b := b) hkS hp hx)
      have H4 := hide (fun x b hx => odds_stay (h := h) (x := x) (b := b) hkS hp hx)
      obtain ⟨R, hR⟩ : ∃ R, R = h p := ⟨_, rfl⟩
      rw [← hR] at HOp hcp H1 H2 H3 H4
      obtain ⟨x, is, cl⟩ := R
      simp only [Prod.mk.injEq] at HOp hcp H1 H2 H3 H4
      clear hp c0 hkS hR HO HC HT
      go_wp2_with fail
      refine (HOp.out _ (Hb1.out.trans (Hbe.out.mono Hb1.out.size))).mono ?_
      rintro y w3 ⟨rfl, hb3⟩
      have d3 := agr d0 hb3
      have HoL3 := hide (HoL.out.keep hb3)
      have HoD3 := hide (HoD.out.kept hb3)
      have Hbe3 := hide (Hbe.out.trans (hb3.mono Hbe.out.size))
      clear HoL HoD Hbe HOp d0 hb3
      cases cl with
      | false =>
        have Hd := hide (HD.out.trans (H4.out x is ⟨rfl, rfl, rfl⟩).symm)
        cases is with
        | false =>
          have Hl := hide (show L = (outs h (S.take (k + 1))).take 1000 by rw [H2.out x false ⟨rfl, rfl, rfl⟩]; exact HL.out)
          clear HD HL H1 H2 H3 H4 hcp
          go_wp2
          exact ⟨⟨k + 1, v, u, L, D, rfl, rfl, by go_num, by omega, by omega, by omega, Hl, Hd, HoL3, HoD3, Hbe3⟩, by simp [intOf]; omega⟩
        | true =>
          have ht := take_more HL.out ⟨p, x⟩
          rw [← H1.out x false ⟨rfl, rfl, rfl⟩] at ht
          clear HD HL H1 H2 H3 H4 hcp
          obtain ⟨M, hM⟩ : ∃ M, M = L.length := ⟨_, rfl⟩
          rw [← hM] at ht hLk
          obtain ⟨A9, c9, hv9, _⟩ := HoL3.out.fls
          rw [← hM] at hv9
          have HM := hide hM
          by_cases h9 : M < 1000
          · have d9 : decide ((M : Int) < 1000) = true := decide_eq_true (by omega)
            rw [if_pos h9] at ht
            have Hl := hide ht.symm
            have hM1 : L.length + 1 ≤ 1000000000 := by omega
            clear ht h9 hM
            subst hv9
            go_wp2_with (refine wpList_pushF rfl (.tmp 50) (.tmp 57) rfl w1.heap.size w1 (.slice A9 M c9) L ⟨p, x⟩ _ rfl rfl rfl HoL3.out hM1 Hbe3.out Hbe3.out.size ?_; intro v1 w5 hown1 hb5 hg5)
            exact ⟨⟨k + 1, v1, u, L ++ [⟨p, x⟩], D, rfl, rfl, by go_num, by omega, by rw [List.length_append, List.length_singleton, ← HM.out]; omega, by omega, Hl, Hd, hide hown1, hide (owt_keep HoD3.out HoL3.out hg5), hide hb5⟩, by simp [intOf]; omega⟩
          · have d9 : decide ((M : Int) < 1000) = false := decide_eq_false (by omega)
            rw [if_neg h9] at ht
            have Hl := hide ht.symm
            clear ht h9 hM
            subst hv9
            go_wp2
            exact ⟨⟨k + 1, _, u, L, D, rfl, rfl, by go_num, by omega, by rw [← HM.out]; omega, by omega, Hl, Hd, HoL3, HoD3, Hbe3⟩, by simp [intOf]; omega⟩
      | true =>
        obtain rfl : is = true := hcp rfl
        have ht := take_more HL.out ⟨p, x⟩
        rw [← H1.out x true ⟨rfl, rfl, rfl⟩] at ht
        have Hd := hide ((H3.out x true ⟨rfl, rfl, rfl⟩).trans (congrArg (· ++ [p]) HD.out.symm)).symm
        clear HD HL H1 H2 H3 H4 hcp
        have hD1 : D.length + 1 ≤ 1000000000 := by omega
        obtain ⟨M, hM⟩ : ∃ M, M = L.length := ⟨_, rfl⟩
        rw [← hM] at ht hLk
        obtain ⟨A9, c9, hv9, _⟩ := HoL3.out.fls
        rw [← hM] at hv9
        have HM := hide hM
        by_cases h9 : M < 1000
        · have d9 : decide ((M : Int) < 1000) = true := decide_eq_true (by omega)
          rw [if_pos h9] at ht
          have Hl := hide ht.symm
          have hM1 : L.length + 1 ≤ 1000000000 := by omega
          clear ht h9 hM
          subst hv9
          go_wp2_with (first | (refine wpList_pushT rfl (.tmp 37) (.tmp 42) rfl w1.heap.size w1 u D p _ rfl rfl rfl HoD3.out hD1 Hbe3.out Hbe3.out.size ?_; intro u1 w4 hown4 hb4 hg4 _; have d4 := agr C0.out hb4; have HoL4 := hide (owf_keep HoL3.out HoD3.out hg4); have HoD4 := hide hown4; have Hb4 := hide hb4; clear hown4 hb4 hg4 HoL3 HoD3 Hbe3 d3) | (refine wpList_pushF rfl (.tmp 50) (.tmp 57) rfl w1.heap.size w1 (.slice A9 M c9) L ⟨p, x⟩ _ rfl rfl rfl HoL4.out hM1 Hb4.out Hb4.out.size ?_; intro v1 w5 hown1 hb5 hg5))
          exact ⟨⟨k + 1, v1, u1, L ++ [⟨p, x⟩], D ++ [p], rfl, rfl, by go_num, by omega, by rw [List.length_append, List.length_singleton, ← HM.out]; omega, by rw [List.length_append, List.length_singleton]; omega, Hl, Hd, hide hown1, hide (owt_keep HoD4.out HoL4.out hg5), hide hb5⟩, by simp [intOf]; omega⟩
        · have d9 : decide ((M : Int) < 1000) = false := decide_eq_false (by omega)
          rw [if_neg h9] at ht
          have Hl := hide ht.symm
          clear ht h9 hM
          subst hv9
          go_wp2_with (refine wpList_pushT rfl (.tmp 37) (.tmp 42) rfl w1.heap.size w1 u D p _ rfl rfl rfl HoD3.out hD1 Hbe3.out Hbe3.out.size ?_; intro u1 w4 hown4 hb4 hg4 _; have d4 := agr C0.out hb4; have HoL4 := hide (owf_keep HoL3.out HoD3.out hg4); have HoD4 := hide hown4; have Hb4 := hide hb4; clear hown4 hb4 hg4 HoL3 HoD3 Hbe3 d3)
          exact ⟨⟨k + 1, _, u1, L, D ++ [p], rfl, rfl, by go_num, by omega, by rw [← HM.out]; omega, by rw [List.length_append, List.length_singleton]; omega, Hl, Hd, HoL4, HoD4, Hb4⟩, by simp [intOf]; omega⟩
    · obtain rfl : k = N := by omega
      have hoL := HoL.out
      have hoD := HoD.out
      rw [HL.out, HN.out, List.take_length] at hoL
      rw [HD.out, HN.out, List.take_length] at hoD
      have HoL2 := hide hoL
      have HoD2 := hide hoD
      clear hoL hoD HL HD HoL HoD hLk hDk HO HC
      go_wp2
      go_ret2
      exact ⟨_, _, rfl, by rw [HT.out]; exact HoL2.out.base Hb1.out.size, by rw [HT.out]; exact owt_low HoD2.out Hb1.out.size, Hb1.out.trans (Hbe.out.mono Hb1.out.size)⟩
end Go.Proofs.Ytghnieddokhagaa.Tr
