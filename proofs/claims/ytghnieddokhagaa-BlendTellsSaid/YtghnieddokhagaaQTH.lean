/-
  The reference of trees: a file's text, a tree without a file.
-/
import Derived.BigQuiet
import Derived.Test.YtghnieddokhagaaQTE
import Derived.Laws.StructEq
namespace Go.Proofs.Ytghnieddokhagaa.Tr
open Go Go.RowKit Kt Lw Li Lx Df

theorem eqn_no {x y : Bs} (h : ¬ x = y) : (x == y) = false := by simpa using h
theorem get_cons {t : List Fl} {k : Nat} {f : Fl} (hd : t.drop k = f :: t.drop (k + 1)) (p : Bs) : get (t.drop k) p = if f.path = p then (f.text, true) else get (t.drop (k + 1)) p := by rw [hd, get]
set_option maxRecDepth 100000 in
set_option maxHeartbeats 2000000 in
theorem rget_any (t : List Fl) (p : Bs) (A : Option Addr) (c : Nat) (w : World) (hs : Fls w A c t) (hn : t.length ≤ 1000000) :
    Calls Try.prog 27 #[.slice A t.length c, .string ⟨p.toArray⟩] w fun y w' => y = .returned (.tuple #[.string ⟨(get t p).1.toArray⟩, .bool (get t p).2]) ∧ Below w.heap.size w w' := by
  have Hs := hide hs
  obtain ⟨N, hN⟩ : ∃ N, N = t.length := ⟨_, rfl⟩
  rw [← hN] at hn ⊢
  have HN := hide hN
  clear hs hN
  go_enter Try.func27, Try.ntmps27
  go_wp2
  go_loopw [6] (fun i wr => ∃ k : Nat, k ≤ N ∧ i = .int .i64 k ∧ Hid (get t p = get (t.drop k) p) ∧ Below w.heap.size w wr) (fun i _ => N - (intOf i).toNat)
  case atStart => exact ⟨0, Nat.zero_le _, rfl, by show Hid _; exact hide rfl, Below.refl _ _⟩
  case round =>
    obtain ⟨k, hk, rfl, HR, hb⟩ := hrel
    have Hb := hide hb
    clear hb
    by_cases hlt : k < N
    · obtain ⟨b, o, f, rfl, hbl, hf, hd, d0, d1⟩ := Hs.out.at (w' := wr) Hb.out (k := k) (by have := HN.out; omega)
      have hr := HR.out
      rw [get_cons hd] at hr
      obtain ⟨x, hx⟩ : ∃ x, x = f.text := ⟨_, rfl⟩
      obtain ⟨q, hq⟩ : ∃ q, q = f.path := ⟨_, rfl⟩
      rw [← hx] at d1 hr
      rw [← hq] at d0 hr
      clear hx hq hf hd HR hbl
      by_cases he : q = p
      · rw [if_pos he] at hr
        subst he
        have Hr := hide hr
        clear hr
        go_wp2
        go_ret2
        exact ⟨by rw [Hr.out]; rfl, Hb.out⟩
      · rw [if_neg he] at hr
        have Hr := hide hr
        have hq := eqn_no he
        clear hr he
        go_wp2
        exact ⟨⟨k + 1, by omega, by go_num, by show Hid _; exact hide Hr.out, Hb.out⟩, by simp [intOf]; omega⟩
    · obtain rfl : k = N := by omega
      have Hr := hide (show get t p = ([], false) by rw [HR.out, HN.out, List.drop_length]; rfl)
      clear HR
      go_wp2
      go_ret2
      exact ⟨by rw [Hr.out]; rfl, Hb.out⟩
theorem drop_take {t : List Fl} {k : Nat} {f : Fl} (h : t[k]? = some f) (p : Bs) : drop (t.take (k + 1)) p = drop (t.take k) p ++ (if f.path = p then [] else [f]) := by
  obtain ⟨hk, e⟩ := List.getElem?_eq_some_iff.1 h
  rw [List.take_succ_eq_append_getElem hk, e]
  unfold drop
  rw [List.filter_append]
  congr 1
  by_cases hp : f.path = p
  · rw [if_pos hp]; simp [hp]
  · rw [if_neg hp]; simp [hp]
theorem drop_take_le (t : List Fl) (k : Nat) (p : Bs) : (drop (t.take k) p).length ≤ k := Nat.le_trans (drop_le _ _) (List.length_take_le _ _)
end Go.Proofs.Ytghnieddokhagaa.Tr
namespace Go.Proofs.Ytghnieddokhagaa.Tr
open Go Go.RowKit Kt Lw Li Lx Df

theorem run_ne_file (f g : Fl) (w : World) : (binOp .neq tF (.agg #[.string ⟨f.path.toArray⟩, .string ⟨f.text.toArray⟩]) (.agg #[.string ⟨g.path.toArray⟩, .string ⟨g.text.toArray⟩])).run Try.prog w = .ok (.bool (decide (f ≠ g))) w := by
  have hu := Try.underlying34
  have hs := Try.underlying9
  have c1 : Try.prog.cellsOf 9 = 1 := by kernel_rfl
  rw [run_neq_struct, run_equalIn_struct _ _ _ _ _ (by unfold Program.fieldsOf; rw [hu]) (by kernel_rfl)]
  unfold Program.fieldsOf
  rw [hu]
  simp [go_sem, Op.eqFields, hs]
  obtain ⟨p, x⟩ := f
  obtain ⟨q, y⟩ := g
  by_cases h1 : p = q
  · by_cases h2 : x = y <;> simp [h1, h2]
  · simp [h1]
set_option maxRecDepth 100000 in
set_option maxHeartbeats 2000000 in
theorem same_any (t u : List Fl) (A A' : Option Addr) (c c' : Nat) (w : World) (hs : Fls w A c t) (hs' : Fls w A' c' u) (hn : t.length ≤ 1000000) :
    Calls Try.prog 11 #[.slice A t.length c, .slice A' u.length c'] w fun y w' => y = .returned (.bool (decide (t = u))) ∧ Below w.heap.size w w' := by
  by_cases hlen : t.length = u.length
  · have Hs := hide hs
    have Hs' := hide hs'
    obtain ⟨N, hN⟩ : ∃ N, N = t.length := ⟨_, rfl⟩
    have hN' : N = u.length := by omega
    rw [← hlen, ← hN]
    rw [← hN] at hn
    have HN := hide hN
    have HN' := hide hN'
    clear hs hs' hN hN' hlen
    go_enter Try.func11, Try.ntmps11
    go_wp2
    go_loopw [5] (fun i wr => ∃ k : Nat, k ≤ N ∧ i = .int .i64 k ∧ Hid (decide (t = u) = decide (t.drop k = u.drop k)) ∧ Below w.heap.size w wr) (fun i _ => N - (intOf i).toNat)
    case atStart => exact ⟨0, Nat.zero_le _, rfl, by show Hid _; exact hide rfl, Below.refl _ _⟩
    case round =>
      obtain ⟨k, hk, rfl, HR, hb⟩ := hrel
      have Hb := hide hb
      clear hb
      by_cases hlt : k < N
      · obtain ⟨b, o, f, rfl, hbl, hf, hd, d0, d1⟩ := Hs.out.at (w' := wr) Hb.out (k := k) (by have := HN.out; omega)
        obtain ⟨b', o', g, rfl, hbl', hg, hd', e0, e1⟩ := Hs'.out.at (w' := wr) Hb.out (k := k) (by have := HN'.out; omega)
        have hr := HR.out
        rw [hd, hd'] at hr
        have hne := fun w => run_ne_file f g w
        obtain ⟨x, hx⟩ : ∃ x, x = f.text := ⟨_, rfl⟩
        obtain ⟨p, hp⟩ : ∃ p, p = f.path := ⟨_, rfl⟩
        obtain ⟨y, hy⟩ : ∃ y, y = g.text := ⟨_, rfl⟩
        obtain ⟨q, hq⟩ : ∃ q, q = g.path := ⟨_, rfl⟩
        rw [← hx] at d1
        rw [← hp] at d0
        rw [← hy] at e1
        rw [← hq] at e0
        rw [← hx, ← hp, ← hy, ← hq] at hne
        clear hx hp hy hq hf hg hd hd' HR hbl hbl'
        by_cases he : f = g
        · rw [decide_eq_false (show ¬ f ≠ g from fun h => h he)] at hne
          have Hr := hide (show decide (t = u) = decide (t.drop (k + 1) = u.drop (k + 1)) by rw [hr, he]; simp)
          clear hr he
          go_wp2
          go_quiet (fail)
          go_wp2
          exact ⟨⟨k + 1, by omega, by go_num, by show Hid _; exact hide Hr.out, below_drewN Hb.out _⟩, by simp [intOf]; omega⟩
        · rw [decide_eq_true (show f ≠ g from he)] at hne
          have Hr := hide (show decide (t = u) = false by rw [hr, decide_eq_false_iff_not]; intro h; exact he (List.cons.inj h).1)
          clear hr he
          go_wp2
          go_quiet (fail)
          go_wp2
          go_ret
          exact ⟨by rw [Hr.out]; rfl, below_drewN Hb.out _⟩
      · obtain rfl : k = N := by omega
        have Hr := hide (show decide (t = u) = true by
          rw [HR.out, decide_eq_true_iff, List.drop_of_length_le (by have := HN.out; omega), List.drop_of_length_le (by have := HN'.out; omega)])
        clear HR
        go_wp2
        go_ret
        exact ⟨by rw [Hr.out]; rfl, Hb.out⟩
  · have Hr := hide (show decide (t = u) = false from decide_eq_false fun h => hlen (by rw [h]))
    obtain ⟨N, hN⟩ : ∃ N, N = t.length := ⟨_, rfl⟩
    obtain ⟨M, hM⟩ : ∃ N, N = u.length := ⟨_, rfl⟩
    rw [← hN, ← hM] at hlen ⊢
    have d1 : ((N : Int) != (M : Int)) = true := by rw [bne_iff_ne]; omega
    have d2 : (N != M) = true := by rw [bne_iff_ne]; exact hlen
    clear hs hs' hn hN hM
    go_enter Try.func11, Try.ntmps11
    go_wp2
    go_ret
    exact ⟨by rw [Hr.out]; rfl, Below.refl _ _⟩
end Go.Proofs.Ytghnieddokhagaa.Tr
namespace Go.Proofs.Ytghnieddokhagaa.Tr
open Go Go.RowKit Kt Lw Li Lx Df

def sizes : List Fl → Nat
  | [] => 0
  | f :: t => min f.path.length 1000 + min f.text.length 1000 + sizes t
theorem sizes_snoc : ∀ (t : List Fl) (f : Fl), sizes (t ++ [f]) = sizes t + min f.path.length 1000 + min f.text.length 1000
  | [], f => by simp [sizes]
  | g :: t, f => by rw [List.cons_append, sizes, sizes, sizes_snoc t f]; omega
theorem sizes_le : ∀ t : List Fl, sizes t ≤ t.length * 2000
  | [] => by simp [sizes]
  | f :: t => by
    have := sizes_le t
    rw [sizes, List.length_cons]; omega
def fewB (t : List Fl) : Bool := decide (t.length ≤ 12) && decide (sizes (t.take 20) ≤ 600)
theorem take_snocF {t : List Fl} {k : Nat} {f : Fl} (h : t[k]? = some f) : t.take (k + 1) = t.take k ++ [f] := by
  obtain ⟨hk, e⟩ := List.getElem?_eq_some_iff.1 h
  rw [List.take_succ_eq_append_getElem hk, e]
theorem sizes_mem : ∀ {t : List Fl} {f : Fl}, f ∈ t → min f.path.length 1000 + min f.text.length 1000 ≤ sizes t
  | g :: t, f, h => by
    rw [sizes]
    rcases List.mem_cons.1 h with rfl | h
    · omega
    · have := sizes_mem h; omega
/-- files of a size that is looked at -/
theorem few_is {t : List Fl} (h : fewB t = true) : t.length ≤ 12 ∧ ∀ f ∈ t, f.path.length + f.text.length ≤ 600 := by
  unfold fewB at h
  rw [Bool.and_eq_true, decide_eq_true_eq, decide_eq_true_eq] at h
  obtain ⟨h1, h2⟩ := h
  rw [List.take_of_length_le (by omega)] at h2
  exact ⟨h1, fun f hf => by have := sizes_mem hf; omega⟩
set_option maxRecDepth 100000 in
set_option maxHeartbeats 2000000 in
theorem few_any (t : List Fl) (A : Option Addr) (c : Nat) (w : World) (hs : Fls w A c t) :
    Calls Try.prog 13 #[.slice A t.length c] w fun y w' => y = .returned (.bool (fewB t)) ∧ Below w.heap.size w w' := by
  have Hs := hide hs
  obtain ⟨N, hN⟩ : ∃ N, N = t.length := ⟨_, rfl⟩
  rw [← hN]
  have HN := hide hN
  have HF := hide (show fewB t = (decide ((N : Int) ≤ 12) && decide ((sizes (t.take 20) : Int) ≤ 600)) by
    rw [hN]; unfold fewB
    rw [decide_eq_decide.2 (show t.length ≤ 12 ↔ (t.length : Int) ≤ 12 by omega), decide_eq_decide.2 (show sizes (t.take 20) ≤ 600 ↔ (sizes (t.take 20) : Int) ≤ 600 by omega)])
  clear hs hN
  go_enter Try.func13, Try.ntmps13
  go_wp2
  go_loopw [3, 4] (fun s i wr => ∃ k : Nat, k ≤ N ∧ k ≤ 20 ∧ i = .int .i64 k ∧ s = .int .i64 (sizes (t.take k) : Nat) ∧ Below w.heap.size w wr) (fun _ i _ => N - (intOf i).toNat)
  case atStart => exact ⟨0, Nat.zero_le _, by omega, rfl, rfl, Below.refl _ _⟩
  case round =>
    obtain ⟨k, hk, hk20, rfl, rfl, hb⟩ := hrel
    have Hb := hide hb
    clear hb
    by_cases hlt : k < N ∧ k < 20
    · obtain ⟨hlt, hlt2⟩ := hlt
      obtain ⟨b, o, f, rfl, hbl, hf, hd, d0, d1⟩ := Hs.out.at (w' := wr) Hb.out (k := k) (by have := HN.out; omega)
      have hsz := sizes_snoc (t.take k) f
      rw [← take_snocF hf] at hsz
      have hle := sizes_le (t.take k)
      have hle2 := List.length_take_le k t
      obtain ⟨S, hS⟩ : ∃ S, S = sizes (t.take k) := ⟨_, rfl⟩
      rw [← hS] at hsz hle ⊢
      have hS6 : S ≤ 40000 := by omega
      obtain ⟨x, hx⟩ : ∃ x, x = f.text := ⟨_, rfl⟩
      obtain ⟨p, hp⟩ : ∃ p, p = f.path := ⟨_, rfl⟩
      rw [← hx] at d1 hsz
      rw [← hp] at d0 hsz
      obtain ⟨m, hm⟩ : ∃ m, m = min p.length 1000 := ⟨_, rfl⟩
      obtain ⟨j, hj⟩ : ∃ j, j = min x.length 1000 := ⟨_, rfl⟩
      rw [← hm, ← hj] at hsz
      obtain ⟨s1, hs1⟩ : ∃ s1, s1 = S + m := ⟨_, rfl⟩
      obtain ⟨s2, hs2⟩ : ∃ s2, s2 = s1 + j := ⟨_, rfl⟩
      have Hsz := hide (show sizes (t.take (k + 1)) = s2 by omega)
      have c1 : (if (1000 : Int) < (p.length : Int) then (1000 : Int) else (p.length : Int)) = (m : Int) := by split <;> omega
      have c2 : (if (1000 : Int) < (x.length : Int) then (1000 : Int) else (x.length : Int)) = (j : Int) := by split <;> omega
      have c3 : (if 1000 < p.length then (1000 : Int) else (p.length : Int)) = (m : Int) := by split <;> omega
      have c4 : (if 1000 < x.length then (1000 : Int) else (x.length : Int)) = (j : Int) := by split <;> omega
      have w1 : IntKind.i64.wrap ((S : Int) + (m : Int)) = (s1 : Int) := by rw [IntWalk.i64_in _ (by omega)]; omega
      have w2 : IntKind.i64.wrap ((s1 : Int) + (j : Int)) = (s2 : Int) := by rw [IntWalk.i64_in _ (by omega)]; omega
      have k1 : decide ((k : Int) < (N : Int)) = true := decide_eq_true (by omega)
      have k2 : decide ((k : Int) < 20) = true := decide_eq_true (by omega)
      have k3 : decide (k < N) = true := decide_eq_true hlt
      have k4 : decide (k < 20) = true := decide_eq_true hlt2
      clear hx hp hm hj hs1 hs2 hS hf hd hbl hle hle2 hsz
      go_wp2
      have s0 : wr.drew.cell? ⟨b, o + k * 2, none⟩ = some (.string ⟨p.toArray⟩) := d0
      have s1' : wr.drew.cell? ⟨b, o + k * 2 + 1, none⟩ = some (.string ⟨x.toArray⟩) := d1
      refine Rg.wp_region_ord (fun w' => w'.cell? ⟨b, o + k * 2, none⟩ = some (.string ⟨p.toArray⟩) ∧ w'.cell? ⟨b, o + k * 2 + 1, none⟩ = some (.string ⟨x.toArray⟩)) [(0, true), (1, true), (2, true), (3, true), (4, true), (5, true), (6, true), (7, true), (8, true), (9, true), (10, true), (11, true), (12, true), (13, true), (14, true), (15, true), (16, true), (17, true)] (by kernel_rfl) (by kernel_rfl) ?_
      simp only [Rg.pick, List.map_cons, List.map_nil, List.getD_cons_zero, List.getD_cons_succ]
      iterate 18 (refine Rg.ord_quiet (v := ?_) rfl (fun w' hS => ?_) ⟨s0, s1'⟩ ?_; rotate_left; (obtain ⟨q0, q1⟩ := hS; go_simp; with_reducible rfl); simp only [Act.put, List.setIfInBounds_toArray, List.set_cons_succ, List.set_cons_zero])
      refine Rg.ord_nil ?_
      have Hbd := hide Hb.out.drew
      clear s0 s1' d0 d1 c1 c2 c3 c4 w1 w2
      go_wp2
      exact ⟨⟨k + 1, by omega, by omega, by go_num, by rw [Hsz.out], Hbd.out⟩, by simp [intOf]; omega⟩
    · have Hsz := hide (show sizes (t.take k) = sizes (t.take 20) by
        by_cases h20 : k = 20
        · rw [h20]
        · rw [List.take_of_length_le (by have := HN.out; omega), List.take_of_length_le (by have := HN.out; omega)])
      rw [Hsz.out]
      obtain ⟨S, hS⟩ : ∃ S, S = sizes (t.take 20) := ⟨_, rfl⟩
      rw [← hS] at HF ⊢
      clear hS Hsz
      by_cases hkN : k < N
      · have k1 : decide ((k : Int) < (N : Int)) = true := decide_eq_true (by omega)
        have k2 : decide ((k : Int) < 20) = false := decide_eq_false (by omega)
        have k3 : decide (k < N) = true := decide_eq_true hkN
        have k4 : decide (k < 20) = false := decide_eq_false (by omega)
        have n1 : decide ((N : Int) ≤ 12) = false := decide_eq_false (by omega)
        rw [n1, Bool.false_and] at HF
        clear hlt
        go_wp2
        go_ret
        exact ⟨by rw [HF.out]; rfl, Hb.out⟩
      · have k1 : decide ((k : Int) < (N : Int)) = false := decide_eq_false (by omega)
        have k3 : decide (k < N) = false := decide_eq_false hkN
        clear hlt
        by_cases h12 : N ≤ 12
        · have n1 : decide ((N : Int) ≤ 12) = true := decide_eq_true (by omega)
          have n2 : decide (N ≤ 12) = true := decide_eq_true h12
          rw [n1, Bool.true_and] at HF
          by_cases h6 : S ≤ 600
          · have n3 : decide ((S : Int) ≤ 600) = true := decide_eq_true (by omega)
            have n4 : decide (S ≤ 600) = true := decide_eq_true h6
            rw [n3] at HF
            go_wp2
            go_ret
            exact ⟨by rw [HF.out]; rfl, Hb.out⟩
          · have n3 : decide ((S : Int) ≤ 600) = false := decide_eq_false (by omega)
            have n4 : decide (S ≤ 600) = false := decide_eq_false h6
            rw [n3] at HF
            go_wp2
            go_ret
            exact ⟨by rw [HF.out]; rfl, Hb.out⟩
        · have n1 : decide ((N : Int) ≤ 12) = false := decide_eq_false (by omega)
          have n2 : decide (N ≤ 12) = false := decide_eq_false h12
          rw [n1, Bool.false_and] at HF
          go_wp2
          go_ret
          exact ⟨by rw [HF.out]; rfl, Hb.out⟩
end Go.Proofs.Ytghnieddokhagaa.Tr
