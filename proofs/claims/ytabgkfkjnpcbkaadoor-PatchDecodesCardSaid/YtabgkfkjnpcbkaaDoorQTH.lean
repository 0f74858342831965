/-
  The reference of trees: a file's text, a tree without a file.
-/
import Derived.BigQuiet
import Derived.Test.YtabgkfkjnpcbkaaDoorTF
import Derived.Laws.StructEq
import Derived.Test.YtabgkfkjnpcbkaaDoorQWH
import Derived.Test.YtabgkfkjnpcbkaaDoorQWA
namespace Go.Proofs.YtabgkfkjnpcbkaaDoor.Tr
open Go Go.RowKit Kt Lw Li Lx Df

theorem eqn_no {x y : Bs} (h : ¬ x = y) : (x == y) = false := by simpa using h
theorem get_cons {t : List Fl} {k : Nat} {f : Fl} (hd : t.drop k = f :: t.drop (k + 1)) (p : Bs) : get (t.drop k) p = if f.path = p then (f.text, true) else get (t.drop (k + 1)) p := by rw [hd, get]
theorem drop_take {t : List Fl} {k : Nat} {f : Fl} (h : t[k]? = some f) (p : Bs) : drop (t.take (k + 1)) p = drop (t.take k) p ++ (if f.path = p then [] else [f]) := by
  obtain ⟨hk, e⟩ := List.getElem?_eq_some_iff.1 h
  rw [List.take_succ_eq_append_getElem hk, e]
  unfold drop
  rw [List.filter_append]
  congr 1
  by_cases hp : f.path = p
  · rw [if_pos hp]; simp [hp]
  · rw [if_neg hp]; simp [hp]
theorem drop_take_le (t : List Fl) (k : Nat) (p : Bs) : (drop (t.take k) p).length ≤ k := Nat.le_trans (drop_le _ _) (List.length_take_le _ _)
set_option maxRecDepth 100000 in
set_option maxHeartbeats 2000000 in
theorem rdrop_any (t : List Fl) (p : Bs) (A : Option Addr) (c : Nat) (w : World) (hs : Fls w A c t) (hn : t.length ≤ 1000000) :
    Calls Tryd.prog 48 #[.slice A t.length c, .string ⟨p.toArray⟩] w fun y w' => ∃ v, y = .returned (.tuple #[v, .bool (decide ((drop t p).length < t.length))]) ∧ OwF w' w.heap.size v (drop t p) ∧ Below w.heap.size w w' := by
  have Hs := hide hs
  obtain ⟨N, hN⟩ : ∃ N, N = t.length := ⟨_, rfl⟩
  rw [← hN] at hn ⊢
  have HN := hide hN
  clear hs hN
  go_enter Tryd.func48, Tryd.ntmps48
  go_wp2
  go_loopw [6, 7] (fun s i wr => ∃ (k : Nat) (v0 : Value), v0 = s ∧ k ≤ N ∧ i = .int .i64 k ∧ OwF wr w.heap.size v0 (drop (t.take k) p) ∧ Below w.heap.size w wr) (fun _ i _ => N - (intOf i).toNat)
  case atStart => exact ⟨0, _, rfl, Nat.zero_le _, rfl, OwF.nil _ _, Below.refl _ _⟩
  case round =>
    obtain ⟨k, v, rfl, hk, rfl, hown, hb⟩ := hrel
    have Hb := hide hb
    have Hown := hide hown
    clear hb hown
    by_cases hlt : k < N
    · obtain ⟨b, o, f, rfl, hbl, hf, hd, d0, d1⟩ := Hs.out.at (w' := wr) Hb.out (k := k) (by have := HN.out; omega)
      have hdt := drop_take hf p
      have hdl := drop_take_le t k p
      generalize drop (t.take k) p = L at *
      obtain ⟨x, hx⟩ : ∃ x, x = f.text := ⟨_, rfl⟩
      obtain ⟨q, hq⟩ : ∃ q, q = f.path := ⟨_, rfl⟩
      have Hfe := hide (show f = ⟨q, x⟩ by rw [hx, hq])
      rw [← hx] at d1
      rw [← hq] at d0 hdt
      clear hx hq hf hd hbl
      by_cases he : q = p
      · rw [if_pos he, List.append_nil] at hdt
        have Hdt := hide hdt
        subst he
        clear hdt
        go_wp2
        exact ⟨⟨k + 1, _, rfl, by omega, by go_num, by rw [Hdt.out]; exact Hown.out, Hb.out⟩, by simp [intOf]; omega⟩
      · rw [if_neg he, Hfe.out] at hdt
        have Hdt := hide hdt
        have hq := eqn_no he
        have hqn : (q != p) = true := by unfold bne; rw [hq]; rfl
        have hdl6 : L.length ≤ 1000000 := by omega
        have Hdl := hide hdl6
        clear hdt he hdl hdl6
        go_wp2_with (refine wpList_pushF rfl (.tmp 21) (.tmp 26) rfl w.heap.size w v L ⟨q, x⟩ _ rfl rfl rfl Hown.out (by have := Hdl.out; omega) Hb.out Hb.out.size ?_; intro v1 w1 hown1 hb1 _)
        exact ⟨⟨k + 1, _, rfl, by omega, by go_num, by rw [Hdt.out]; exact hown1, hb1⟩, by simp [intOf]; omega⟩
    · obtain rfl : k = N := by omega
      have hown := Hown.out
      rw [HN.out, List.take_length] at hown
      have Hown2 := hide hown
      obtain ⟨A9, c9, rfl, _⟩ := hown.fls
      obtain ⟨l9, hl9⟩ : ∃ z, z = (drop t p).length := ⟨_, rfl⟩
      have Hl9 := hide hl9
      rw [← hl9] at Hown2 ⊢
      clear hown hl9 Hown
      go_wp2
      go_ret2
      exact ⟨_, by rw [← Hl9.out]; rfl, Hown2.out, Hb.out⟩
end Go.Proofs.YtabgkfkjnpcbkaaDoor.Tr
namespace Go.Proofs.YtabgkfkjnpcbkaaDoor.Tr
open Go Go.RowKit Kt Lw Li Lx Df

theorem run_ne_file (f g : Fl) (w : World) : (binOp .neq tF (.agg #[.string ⟨f.path.toArray⟩, .string ⟨f.text.toArray⟩]) (.agg #[.string ⟨g.path.toArray⟩, .string ⟨g.text.toArray⟩])).run Tryd.prog w = .ok (.bool (decide (f ≠ g))) w := by
  have hu := Tryd.underlying53
  have hs := Tryd.underlying9
  have c1 : Tryd.prog.cellsOf 9 = 1 := by kernel_rfl
  rw [run_neq_struct, run_equalIn_struct _ _ _ _ _ (by unfold Program.fieldsOf; rw [hu]) (by kernel_rfl)]
  unfold Program.fieldsOf
  rw [hu]
  simp [go_sem, Op.eqFields, hs]
  obtain ⟨p, x⟩ := f
  obtain ⟨q, y⟩ := g
  by_cases h1 : p = q
  · by_cases h2 : x = y <;> simp [h1, h2]
  · simp [h1]
set_option maxRecDepth 100000 in
set_option maxHeartbeats 2000000 in
theorem same_any (t u : List Fl) (A A' : Option Addr) (c c' : Nat) (w : World) (hs : Fls w A c t) (hs' : Fls w A' c' u) (hn : t.length ≤ 1000000) :
    Calls Tryd.prog 24 #[.slice A t.length c, .slice A' u.length c'] w fun y w' => y = .returned (.bool (decide (t = u))) ∧ Below w.heap.size w w' := by
  by_cases hlen : t.length = u.length
  · have Hs := hide hs
    have Hs' := hide hs'
    obtain ⟨N, hN⟩ : ∃ N, N = t.length := ⟨_, rfl⟩
    have hN' : N = u.length := by omega
    rw [← hlen, ← hN]
    rw [← hN] at hn
    have HN := hide hN
    have HN' := hide hN'
    clear hs hs' hN hN' hlen
    go_enter Tryd.func24, Tryd.ntmps24
    go_wp2
    go_loopw [5] (fun i wr => ∃ k : Nat, k ≤ N ∧ i = .int .i64 k ∧ Hid (decide (t = u) = decide (t.drop k = u.drop k)) ∧ Below w.heap.size w wr) (fun i _ => N - (intOf i).toNat)
    case atStart => exact ⟨0, Nat.zero_le _, rfl, by show Hid _; exact hide rfl, Below.refl _ _⟩
    case round =>
      obtain ⟨k, hk, rfl, HR, hb⟩ := hrel
      have Hb := hide hb
      clear hb
      by_cases hlt : k < N
      · obtain ⟨b, o, f, rfl, hbl, hf, hd, d0, d1⟩ := Hs.out.at (w' := wr) Hb.out (k := k) (by have := HN.out; omega)
        obtain ⟨b', o', g, rfl, hbl', hg, hd', e0, e1⟩ := Hs'.out.at (w' := wr) Hb.out (k := k) (by have := HN'.out; omega)
        have hr := HR.out
        rw [hd, hd'] at hr
        have hne := fun w => run_ne_file f g w
        obtain ⟨x, hx⟩ : ∃ x, x = f.text := ⟨_, rfl⟩
        obtain ⟨p, hp⟩ : ∃ p, p = f.path := ⟨_, rfl⟩
        obtain ⟨y, hy⟩ : ∃ y, y = g.text := ⟨_, rfl⟩
        obtain ⟨q, hq⟩ : ∃ q, q = g.path := ⟨_, rfl⟩
        rw [← hx] at d1
        rw [← hp] at d0
        rw [← hy] at e1
        rw [← hq] at e0
        rw [← hx, ← hp, ← hy, ← hq] at hne
        clear hx hp hy hq hf hg hd hd' HR hbl hbl'
        by_cases he : f = g
        · rw [decide_eq_false (show ¬ f ≠ g from fun h => h he)] at hne
          have Hr := hide (show decide (t = u) = decide (t.drop (k + 1) = u.drop (k + 1)) by rw [hr, he]; simp)
          clear hr he
          go_wp2
          go_quiet (fail)
          go_wp2
          exact ⟨⟨k + 1, by omega, by go_num, by show Hid _; exact hide Hr.out, below_drewN Hb.out _⟩, by simp [intOf]; omega⟩
        · rw [decide_eq_true (show f ≠ g from he)] at hne
          have Hr := hide (show decide (t = u) = false by rw [hr, decide_eq_false_iff_not]; intro h; exact he (List.cons.inj h).1)
          clear hr he
          go_wp2
          go_quiet (fail)
          go_wp2
          go_ret
          exact ⟨by rw [Hr.out]; rfl, below_drewN Hb.out _⟩
      · obtain rfl : k = N := by omega
        have Hr := hide (show decide (t = u) = true by
          rw [HR.out, decide_eq_true_iff, List.drop_of_length_le (by have := HN.out; omega), List.drop_of_length_le (by have := HN'.out; omega)])
        clear HR
        go_wp2
        go_ret
        exact ⟨by rw [Hr.out]; rfl, Hb.out⟩
  · have Hr := hide (show decide (t = u) = false from decide_eq_false fun h => hlen (by rw [h]))
    obtain ⟨N, hN⟩ : ∃ N, N = t.length := ⟨_, rfl⟩
    obtain ⟨M, hM⟩ : ∃ N, N = u.length := ⟨_, rfl⟩
    rw [← hN, ← hM] at hlen ⊢
    have d1 : ((N : Int) != (M : Int)) = true := by rw [bne_iff_ne]; omega
    have d2 : (N != M) = true := by rw [bne_iff_ne]; exact hlen
    clear hs hs' hn hN hM
    go_enter Tryd.func24, Tryd.ntmps24
    go_wp2
    go_ret
    exact ⟨by rw [Hr.out]; rfl, Below.refl _ _⟩
end Go.Proofs.YtabgkfkjnpcbkaaDoor.Tr
namespace Go.Proofs.YtabgkfkjnpcbkaaDoor.Tr
open Go Go.RowKit Kt Lw Li Lx Df

def sizes : List Fl → Nat
  | [] => 0
  | f :: t => min f.path.length 1000 + min f.text.length 1000 + sizes t
theorem sizes_snoc : ∀ (t : List Fl) (f : Fl), sizes (t ++ [f]) = sizes t + min f.path.length 1000 + min f.text.length 1000
  | [], f => by simp [sizes]
  | g :: t, f => by rw [List.cons_append, sizes, sizes, sizes_snoc t f]; omega
theorem sizes_le : ∀ t : List Fl, sizes t ≤ t.length * 2000
  | [] => by simp [sizes]
  | f :: t => by
    have := sizes_le t
    rw [sizes, List.length_cons]; omega
def fewB (t : List Fl) : Bool := decide (t.length ≤ 12) && decide (sizes (t.take 20) ≤ 600)
theorem take_snocF {t : List Fl} {k : Nat} {f : Fl} (h : t[k]? = some f) : t.take (k + 1) = t.take k ++ [f] := by
  obtain ⟨hk, e⟩ := List.getElem?_eq_some_iff.1 h
  rw [List.take_succ_eq_append_getElem hk, e]
theorem sizes_mem : ∀ {t : List Fl} {f : Fl}, f ∈ t → min f.path.length 1000 + min f.text.length 1000 ≤ sizes t
  | g :: t, f, h => by
    rw [sizes]
    rcases List.mem_cons.1 h with rfl | h
    · omega
    · have := sizes_mem h; omega
/-- files of a size that is looked at -/
theorem few_is {t : List Fl} (h : fewB t = true) : t.length ≤ 12 ∧ ∀ f ∈ t, f.path.length + f.text.length ≤ 600 := by
  unfold fewB at h
  rw [Bool.and_eq_true, decide_eq_true_eq, decide_eq_true_eq] at h
  obtain ⟨h1, h2⟩ := h
  rw [List.take_of_length_le (by omega)] at h2
  exact ⟨h1, fun f hf => by have := sizes_mem hf; omega⟩
set_option maxRecDepth 100000 in
set_option maxHeartbeats 2000000 in
theorem few_any (t : List Fl) (A : Option Addr) (c : Nat) (w : World) (hs : Fls w A c t) :
    Calls Tryd.prog 22 #[.slice A t.length c] w fun y w' => y = .returned (.bool (fewB t)) ∧ Below w.heap.size w w' := by
  have Hs := hide hs
  obtain ⟨N, hN⟩ : ∃ N, N = t.length := ⟨_, rfl⟩
  rw [← hN]
  have HN := hide hN
  have HF := hide (show fewB t = (decide ((N : Int) ≤ 12) && decide ((sizes (t.take 20) : Int) ≤ 600)) by
    rw [hN]; unfold fewB
    rw [decide_eq_decide.2 (show t.length ≤ 12 ↔ (t.length : Int) ≤ 12 by omega), decide_eq_decide.2 (show sizes (t.take 20) ≤ 600 ↔ (sizes (t.take 20) : Int) ≤ 600 by omega)])
  clear hs hN
  go_enter Tryd.func22, Tryd.ntmps22
  go_wp2
  go_loopw [3, 4] (fun s i wr => ∃ k : Nat, k ≤ N ∧ k ≤ 20 ∧ i = .int .i64 k ∧ s = .int .i64 (sizes (t.take k) : Nat) ∧ Below w.heap.size w wr) (fun _ i _ => N - (intOf i).toNat)
  case atStart => exact ⟨0, Nat.zero_le _, by omega, rfl, rfl, Below.refl _ _⟩
  case round =>
    obtain ⟨k, hk, hk20, rfl, rfl, hb⟩ := hrel
    have Hb := hide hb
    clear hb
    by_cases hlt : k < N ∧ k < 20
    · obtain ⟨hlt, hlt2⟩ := hlt
      obtain ⟨b, o, f, rfl, hbl, hf, hd, d0, d1⟩ := Hs.out.at (w' := wr) Hb.out (k := k) (by have := HN.out; omega)
      have hsz := sizes_snoc (t.take k) f
      rw [← take_snocF hf] at hsz
      have hle := sizes_le (t.take k)
      have hle2 := List.length_take_le k t
      obtain ⟨S, hS⟩ : ∃ S, S = sizes (t.take k) := ⟨_, rfl⟩
      rw [← hS] at hsz hle ⊢
      have hS6 : S ≤ 40000 := by omega
      obtain ⟨x, hx⟩ : ∃ x, x = f.text := ⟨_, rfl⟩
      obtain ⟨p, hp⟩ : ∃ p, p = f.path := ⟨_, rfl⟩
      rw [← hx] at d1 hsz
      rw [← hp] at d0 hsz
      obtain ⟨m, hm⟩ : ∃ m, m = min p.length 1000 := ⟨_, rfl⟩
      obtain ⟨j, hj⟩ : ∃ j, j = min x.length 1000 := ⟨_, rfl⟩
      rw [← hm, ← hj] at hsz
      obtain ⟨s1, hs1⟩ : ∃ s1, s1 = S + m := ⟨_, rfl⟩
      obtain ⟨s2, hs2⟩ : ∃ s2, s2 = s1 + j := ⟨_, rfl⟩
      have Hsz := hide (show sizes (t.take (k + 1)) = s2 by omega)
      have c1 : (if (1000 : Int) < (p.length : Int) then (1000 : Int) else (p.length : Int)) = (m : Int) := by split <;> omega
      have c2 : (if (1000 : Int) < (x.length : Int) then (1000 : Int) else (x.length : Int)) = (j : Int) := by split <;> omega
      have c3 : (if 1000 < p.length then (1000 : Int) else (p.length : Int)) = (m : Int) := by split <;> omega
      have c4 : (if 1000 < x.length then (1000 : Int) else (x.length : Int)) = (j : Int) := by split <;> omega
      have w1 : IntKind.i64.wrap ((S : Int) + (m : Int)) = (s1 : Int) := by rw [IntWalk.i64_in _ (by omega)]; omega
      have w2 : IntKind.i64.wrap ((s1 : Int) + (j : Int)) = (s2 : Int) := by rw [IntWalk.i64_in _ (by omega)]; omega
      have k1 : decide ((k : Int) < (N : Int)) = true := decide_eq_true (by omega)
      have k2 : decide ((k : Int) < 20) = true := decide_eq_true (by omega)
      have k3 : decide (k < N) = true := decide_eq_true hlt
      have k4 : decide (k < 20) = true := decide_eq_true hlt2
      clear hx hp hm hj hs1 hs2 hS hf hd hbl hle hle2 hsz
      go_wp2
      have s0 : wr.drew.cell? ⟨b, o + k * 2, none⟩ = some (.string ⟨p.toArray⟩) := d0
      have s1' : wr.drew.cell? ⟨b, o + k * 2 + 1, none⟩ = some (.string ⟨x.toArray⟩) := d1
      refine Rg.wp_region_ord (fun w' => w'.cell? ⟨b, o + k * 2, none⟩ = some (.string ⟨p.toArray⟩) ∧ w'.cell? ⟨b, o + k * 2 + 1, none⟩ = some (.string ⟨x.toArray⟩)) [(0, true), (1, true), (2, true), (3, true), (4, true), (5, true), (6, true), (7, true), (8, true), (9, true), (10, true), (11, true), (12, true), (13, true), (14, true), (15, true), (16, true), (17, true)] (by kernel_rfl) (by kernel_rfl) ?_
      simp only [Rg.pick, List.map_cons, List.map_nil, List.getD_cons_zero, List.getD_cons_succ]
      iterate 18 (refine Rg.ord_quiet (v := ?_) rfl (fun w' hS => ?_) ⟨s0, s1'⟩ ?_; rotate_left; (obtain ⟨q0, q1⟩ := hS; go_simp; with_reducible rfl); simp only [Act.put, List.setIfInBounds_toArray, List.set_cons_succ, List.set_cons_zero])
      refine Rg.ord_nil ?_
      have Hbd := hide Hb.out.drew
      clear s0 s1' d0 d1 c1 c2 c3 c4 w1 w2
      go_wp2
      exact ⟨⟨k + 1, by omega, by omega, by go_num, by rw [Hsz.out], Hbd.out⟩, by simp [intOf]; omega⟩
    · have Hsz := hide (show sizes (t.take k) = sizes (t.take 20) by
        by_cases h20 : k = 20
        · rw [h20]
        · rw [List.take_of_length_le (by have := HN.out; omega), List.take_of_length_le (by have := HN.out; omega)])
      rw [Hsz.out]
      obtain ⟨S, hS⟩ : ∃ S, S = sizes (t.take 20) := ⟨_, rfl⟩
      rw [← hS] at HF ⊢
      clear hS Hsz
      by_cases hkN : k < N
      · have k1 : decide ((k : Int) < (N : Int)) = true := decide_eq_true (by omega)
        have k2 : decide ((k : Int) < 20) = false := decide_eq_false (by omega)
        have k3 : decide (k < N) = true := decide_eq_true hkN
        have k4 : decide (k < 20) = false := decide_eq_false (by omega)
        have n1 : decide ((N : Int) ≤ 12) = false := decide_eq_false (by omega)
        rw [n1, Bool.false_and] at HF
        clear hlt
        go_wp2
        go_ret
        exact ⟨by rw [HF.out]; rfl, Hb.out⟩
      · have k1 : decide ((k : Int) < (N : Int)) = false := decide_eq_false (by omega)
        have k3 : decide (k < N) = false := decide_eq_false hkN
        clear hlt
        by_cases h12 : N ≤ 12
        · have n1 : decide ((N : Int) ≤ 12) = true := decide_eq_true (by omega)
          have n2 : decide (N ≤ 12) = true := decide_eq_true h12
          rw [n1, Bool.true_and] at HF
          by_cases h6 : S ≤ 600
          · have n3 : decide ((S : Int) ≤ 600) = true := decide_eq_true (by omega)
            have n4 : decide (S ≤ 600) = true := decide_eq_true h6
            rw [n3] at HF
            go_wp2
            go_ret
            exact ⟨by rw [HF.out]; rfl, Hb.out⟩
          · have n3 : decide ((S : Int) ≤ 600) = false := decide_eq_false (by omega)
            have n4 : decide (S ≤ 600) = false := decide_eq_false h6
            rw [n3] at HF
            go_wp2
            go_ret
            exact ⟨by rw [HF.out]; rfl, Hb.out⟩
        · have n1 : decide ((N : Int) ≤ 12) = false := decide_eq_false (by omega)
          have n2 : decide (N ≤ 12) = false := decide_eq_false h12
          rw [n1, Bool.false_and] at HF
          go_wp2
          go_ret
          exact ⟨by rw [HF.out]; rfl, Hb.out⟩
end Go.Proofs.YtabgkfkjnpcbkaaDoor.Tr
namespace Go.Proofs.YtabgkfkjnpcbkaaDoor.Tr
open Go Wr

def fFl (f : Fl) : Bs := form f.path.length ++ (f.path ++ (form f.text.length ++ f.text))
def enc (t : List Fl) : Bs := form t.length ++ t.flatMap fFl
def encode (t : List Fl) : Bs × Nat := if right t then (enc t, 0) else ([], 1)
/-- so many files, what is left, why there are none -/
def files : Nat → Bs → List Fl × Bs × Nat
  | 0, b => ([], b, 0)
  | n + 1, b =>
    if (textOf b 200).2.2 ≠ 0 then ([], [], (textOf b 200).2.2)
    else if (textOf (b.drop (textOf b 200).2.1) 65536).2.2 ≠ 0 then ([], [], (textOf (b.drop (textOf b 200).2.1) 65536).2.2)
    else
      let r := files n ((b.drop (textOf b 200).2.1).drop (textOf (b.drop (textOf b 200).2.1) 65536).2.1)
      (⟨(textOf b 200).1, (textOf (b.drop (textOf b 200).2.1) 65536).1⟩ :: r.1, r.2.1, r.2.2)
def decode (b : Bs) : List Fl × Nat :=
  if (numOf b).2.2 ≠ 0 then ([], (numOf b).2.2)
  else if 1000 < (numOf b).1 then ([], 4)
  else if (files (numOf b).1 (b.drop (numOf b).2.1)).2.2 ≠ 0 then ([], (files (numOf b).1 (b.drop (numOf b).2.1)).2.2)
  else if (files (numOf b).1 (b.drop (numOf b).2.1)).2.1 ≠ [] then ([], 5)
  else if right (files (numOf b).1 (b.drop (numOf b).2.1)).1 then ((files (numOf b).1 (b.drop (numOf b).2.1)).1, 0) else ([], 3)

theorem textOf_form (s r : Bs) (most : Int) (h : (s.length : Int) ≤ most) (hl : s.length < 18446744073709551616) : textOf (form s.length ++ (s ++ r)) most = (s, (form s.length).length + s.length, 0) := by
  unfold textOf
  rw [numOf_form _ _ hl]
  simp only [ne_eq, not_true_eq_false, if_false]
  rw [if_neg (by omega), if_neg (by simp), List.drop_left, List.take_left]
theorem textOf_ok {b s : Bs} {most : Int} {k : Nat} (h : textOf b most = (s, k, 0)) : b = form s.length ++ (s ++ b.drop k) ∧ (s.length : Int) ≤ max most 0 := by
  unfold textOf at h
  by_cases h0 : (numOf b).2.2 ≠ 0
  · rw [if_pos h0] at h
    simp only [Prod.mk.injEq] at h
    exact absurd h.2.2 h0
  · rw [if_neg h0] at h
    by_cases h1 : (max most 0).toNat < (numOf b).1
    · rw [if_pos h1] at h; simp at h
    · rw [if_neg h1] at h
      by_cases h2 : b.length - (numOf b).2.1 < (numOf b).1
      · rw [if_pos h2] at h; simp at h
      · rw [if_neg h2] at h
        simp only [Prod.mk.injEq, and_true] at h
        obtain ⟨hs, hk⟩ := h
        have he : (numOf b).2.2 = 0 := by simpa using h0
        obtain ⟨_, _, _, hle, hf⟩ := numOf_ok b (numOf b).1 (numOf b).2.1 (by rw [← he])
        have hl : s.length = (numOf b).1 := by rw [← hs, List.length_take, List.length_drop]; omega
        refine ⟨?_, by omega⟩
        rw [hl, hf, ← hk, ← List.drop_drop, ← hs, List.take_append_drop, List.take_append_drop]
theorem files_enc : ∀ (t : List Fl) (r : Bs), (∀ f ∈ t, f.path.length ≤ 200 ∧ f.text.length ≤ 65536) → files t.length (t.flatMap fFl ++ r) = (t, r, 0)
  | [], r, _ => rfl
  | f :: t, r, h => by
    have hf := h f (by simp)
    have ih := files_enc t r fun g hg => h g (by simp [hg])
    have e : (f :: t).flatMap fFl ++ r = form f.path.length ++ (f.path ++ (form f.text.length ++ (f.text ++ (t.flatMap fFl ++ r)))) := by simp [fFl]
    rw [e, List.length_cons, files, textOf_form _ _ _ (by omega) (by omega)]
    simp only [ne_eq, not_true_eq_false, if_false]
    rw [← List.drop_drop, List.drop_left, List.drop_left, textOf_form _ _ _ (by omega) (by omega)]
    simp only [not_true_eq_false, if_false]
    rw [← List.drop_drop, List.drop_left, List.drop_left, ih]
theorem right_short {t : List Fl} (h : right t = true) : ∀ f ∈ t, f.path.length ≤ 200 ∧ f.text.length ≤ 65536 := fun f hf => by
  obtain ⟨_, h2, h3⟩ := go_above (right_go h).1 f hf
  unfold can at h2
  rw [Bool.and_eq_true, decide_eq_true_eq] at h2
  exact ⟨h2.1, h3⟩
/-- P10.4: what is told is read -/
theorem decode_enc {t : List Fl} (h : right t = true) : decode (enc t) = (t, 0) := by
  have hl := (right_go h).2
  have hf := files_enc t [] (right_short h)
  rw [List.append_nil] at hf
  unfold decode enc
  rw [numOf_form _ _ (by omega)]
  simp only [ne_eq, not_true_eq_false, if_false]
  rw [if_neg (by omega), List.drop_left, hf]
  simp only [not_true_eq_false, if_false]
  rw [if_pos h]
theorem files_ok : ∀ (n : Nat) (b r : Bs) (t : List Fl), files n b = (t, r, 0) → b = t.flatMap fFl ++ r ∧ t.length = n
  | 0, b, r, t, h => by
    simp only [files, Prod.mk.injEq, and_true] at h
    obtain ⟨rfl, rfl⟩ := h
    exact ⟨rfl, rfl⟩
  | n + 1, b, r, t, h => by
    rw [files] at h
    by_cases h1 : (textOf b 200).2.2 ≠ 0
    · rw [if_pos h1] at h
      simp only [Prod.mk.injEq] at h
      exact absurd h.2.2 h1
    · rw [if_neg h1] at h
      by_cases h2 : (textOf (b.drop (textOf b 200).2.1) 65536).2.2 ≠ 0
      · rw [if_pos h2] at h
        simp only [Prod.mk.injEq] at h
        exact absurd h.2.2 h2
      · rw [if_neg h2] at h
        simp only [Prod.mk.injEq] at h
        obtain ⟨ht, hr, he⟩ := h
        have e1 : (textOf b 200).2.2 = 0 := by simpa using h1
        have e2 : (textOf (b.drop (textOf b 200).2.1) 65536).2.2 = 0 := by simpa using h2
        have k1 := (textOf_ok (b := b) (most := 200) (s := (textOf b 200).1) (k := (textOf b 200).2.1) (by rw [← e1])).1
        have k2 := (textOf_ok (b := b.drop (textOf b 200).2.1) (most := 65536) (s := (textOf (b.drop (textOf b 200).2.1) 65536).1) (k := (textOf (b.drop (textOf b 200).2.1) 65536).2.1) (by rw [← e2])).1
        obtain ⟨i1, i2⟩ := files_ok n _ r _ (Prod.ext rfl (Prod.ext hr he))
        subst ht
        refine ⟨?_, by rw [List.length_cons, i2]⟩
        rw [List.flatMap_cons]
        conv => lhs; rw [k1, k2, i1]
        simp [fFl]
/-- P10.4: each form is one tree's -/
theorem enc_decode {b : Bs} {t : List Fl} (h : decode b = (t, 0)) : encode t = (b, 0) ∧ right t = true := by
  unfold decode at h
  by_cases h0 : (numOf b).2.2 ≠ 0
  · rw [if_pos h0] at h
    simp only [Prod.mk.injEq] at h
    exact absurd h.2 h0
  · rw [if_neg h0] at h
    by_cases h1 : 1000 < (numOf b).1
    · rw [if_pos h1] at h; simp at h
    · rw [if_neg h1] at h
      by_cases h2 : (files (numOf b).1 (b.drop (numOf b).2.1)).2.2 ≠ 0
      · rw [if_pos h2] at h
        simp only [Prod.mk.injEq] at h
        exact absurd h.2 h2
      · rw [if_neg h2] at h
        by_cases h3 : (files (numOf b).1 (b.drop (numOf b).2.1)).2.1 ≠ []
        · rw [if_pos h3] at h; simp at h
        · rw [if_neg h3] at h
          by_cases h4 : right (files (numOf b).1 (b.drop (numOf b).2.1)).1 = true
          · rw [if_pos h4] at h
            simp only [Prod.mk.injEq, and_true] at h
            have e0 : (numOf b).2.2 = 0 := by simpa using h0
            have e2 : (files (numOf b).1 (b.drop (numOf b).2.1)).2.2 = 0 := by simpa using h2
            have e3 : (files (numOf b).1 (b.drop (numOf b).2.1)).2.1 = [] := by simpa using h3
            obtain ⟨_, _, _, hle, hf⟩ := numOf_ok b (numOf b).1 (numOf b).2.1 (by rw [← e0])
            obtain ⟨i1, i2⟩ := files_ok _ _ [] t (Prod.ext h (Prod.ext e3 e2))
            rw [h] at h4
            refine ⟨?_, h4⟩
            unfold encode
            rw [if_pos h4]
            unfold enc
            rw [i2, hf]
            congr 1
            rw [List.append_nil] at i1
            rw [← i1, List.take_append_drop]
          · rw [if_neg h4] at h; simp at h
theorem decode_none {b : Bs} (h : (decode b).2 ≠ 0) : (decode b).1 = [] := by
  unfold decode at h ⊢
  by_cases h0 : (numOf b).2.2 ≠ 0
  · rw [if_pos h0]
  · rw [if_neg h0] at h ⊢
    by_cases h1 : 1000 < (numOf b).1
    · rw [if_pos h1]
    · rw [if_neg h1] at h ⊢
      by_cases h2 : (files (numOf b).1 (b.drop (numOf b).2.1)).2.2 ≠ 0
      · rw [if_pos h2]
      · rw [if_neg h2] at h ⊢
        by_cases h3 : (files (numOf b).1 (b.drop (numOf b).2.1)).2.1 ≠ []
        · rw [if_pos h3]
        · rw [if_neg h3] at h ⊢
          by_cases h4 : right (files (numOf b).1 (b.drop (numOf b).2.1)).1 = true
          · rw [if_pos h4] at h; exact absurd rfl h
          · rw [if_neg h4]
end Go.Proofs.YtabgkfkjnpcbkaaDoor.Tr
namespace Go.Proofs.YtabgkfkjnpcbkaaDoor.Wr
open Go Go.RowKit Kt

set_option maxHeartbeats 1000000 in
set_option maxRecDepth 100000 in
theorem rnum_any (b : List UInt8) (n : Nat) (A : Option Addr) (c : Nat) (Pb : Nat → Prop) (w : World) (hs : Sl w Pb A c b) (h : n < 18446744073709551616) (hl : b.length + 10 ≤ 70368744177664) :
    Calls Tryd.prog 50 #[.slice A b.length c, .int .u64 n] w fun e w' => ∃ v, e = .returned v ∧ Own w' w.heap.size 5 v (b ++ form n) ∧ Below w.heap.size w w' := by
  have Hn := hide h
  have Hs := hide hs
  have Hbl := hide hl
  clear h hs hl
  go_enter Tryd.func50, Tryd.ntmps50
  go_wp2_with (at_builtin; go_loud (refine wpList_cat rfl (.tmp 6) (.tmp 7) 28 rfl Tryd.underlying28 info8 w.heap.size w _ [] b Pb A c rfl rfl (Own.made w w.heap.size 5 #[] 0 (Nat.le_refl _) rfl (Nat.zero_le _)) ?qs ?ql ?qb ?qz ?_; rotate_left 4; intro v0 w0 hown0 hb0 _))
  case qs => exact Hs.out.move fun b _ hb => Below.heap_alloc w _ b hb
  case ql => have := Hbl.out; simp; omega
  case qb => exact (Below.refl _ _).alloc (Nat.le_refl _) _
  case qz => simp
  go_loopw [1, 5] (fun x v wr => ∃ (m : Nat) (l : List UInt8), x = .int .u64 m ∧ m ≤ n ∧ Own wr w.heap.size 5 v l ∧ l ++ form m = b ++ form n ∧ Below w.heap.size w wr) (fun x _ _ => (intOf x).toNat)
  case atStart => exact ⟨n, b, rfl, Nat.le_refl _, hown0, rfl, hb0⟩
  case round =>
    clear hown0 hb0
    obtain ⟨m, l, rfl, hm, hown, hl, hb⟩ := hrel
    have Hown := hide hown
    have Hb := hide hb
    have Hl := hide hl
    have Hmn := hide hm
    have hlen : l.length + (form m).length = b.length + (form n).length := by rw [← List.length_append, hl, List.length_append]
    have hs10 := form_short n 10 (by have := Hn.out; omega) (by omega)
    have Hlen := hide (show l.length + 1 ≤ 70368744177664 by have := form_pos m; have := Hbl.out; omega)
    have Hm := hide (show m < 18446744073709551616 by have := Hn.out; omega)
    clear hown hb hl hm hlen hs10
    have hm8 : m % 128 + 128 < 256 := by omega
    have hw64 : IntKind.u64.wrap ((m : Int) / 128) = (m : Int) / 128 := by rw [IntKind.wrap_u64]; have := Hm.out; omega
    by_cases hlt : m < 128
    · have Hf := hide (form_lt hlt)
      go_wp2_with (at_builtin; go_loud (refine wpList_push rfl (.tmp 20) (.tmp 23) 28 rfl Tryd.underlying28 info8 w.heap.size w _ l [UInt8.ofNat m] 1 1 rfl rfl Hown.out ?qc rfl ?ql Hb.out Hb.out.size ?_; rotate_left 2; intro v' w1 hown1 hb1 _))
      case qc => simp [u8s, UInt8.toNat_ofNat']; omega
      case ql => have := Hlen.out; simp; omega
      go_ret
      refine ⟨_, rfl, ?_, hb1⟩
      rw [← Hl.out, Hf.out]
      exact hown1
    · have Hf := hide (form_ge hlt)
      go_wp2_with (at_builtin; go_loud (refine wpList_push rfl (.tmp 11) (.tmp 16) 28 rfl Tryd.underlying28 info8 w.heap.size w _ l [UInt8.ofNat (m % 128 + 128)] 1 1 rfl rfl Hown.out ?qc rfl ?ql Hb.out Hb.out.size ?_; rotate_left 2; intro v' w1 hown1 hb1 _))
      case qc => simp [u8s, UInt8.toNat_ofNat']; omega
      case ql => have := Hlen.out; simp; omega
      refine ⟨⟨m / 128, _, by push_cast; rfl, by have := Hmn.out; omega, hown1, ?_, hb1⟩, ?_⟩
      · rw [← Hl.out, Hf.out]; simp
      · simp only [intOf]; omega

set_option maxHeartbeats 1000000 in
set_option maxRecDepth 100000 in
theorem rtext_any (b x : List UInt8) (A A' : Option Addr) (c c' : Nat) (Pb Px : Nat → Prop) (w : World) (hs : Sl w Pb A c b) (hx : Sl w Px A' c' x) (hl : b.length + x.length + 10 ≤ 70368744177664) :
    Calls Tryd.prog 51 #[.slice A b.length c, .slice A' x.length c'] w fun e w' => ∃ v, e = .returned v ∧ Own w' w.heap.size 5 v (b ++ (form x.length ++ x)) ∧ Below w.heap.size w w' := by
  have Hs := hide hs
  have Hx := hide hx
  have Hbl := hide hl
  have Hf := hide (form_short x.length 10 (by omega) (by omega))
  have hxl : x.length ≤ 70368744177664 := by omega
  clear hs hx hl
  go_enter Tryd.func51, Tryd.ntmps51
  go_wp2_with fail
  refine (rnum_any b x.length A c Pb w Hs.out (by omega) (by have := Hbl.out; omega)).mono ?_
  rintro y w1 ⟨v, rfl, hown, hb⟩
  have Hown := hide hown
  have Hb := hide hb
  clear hown hb
  go_wp2_with (at_builtin; go_loud (refine wpList_cat rfl (.tmp 9) (.tmp 10) 28 rfl Tryd.underlying28 info8 w.heap.size w _ _ x Px A' c' rfl rfl Hown.out ?qs ?ql Hb.out Hb.out.size ?_; rotate_left 2; intro v0 w0 hown0 hb0 _))
  case qs => exact Hx.out.move fun b _ hlt => Hb.out.block b hlt
  case ql => have := Hbl.out; have := Hf.out; simp; omega
  go_ret
  rw [List.append_assoc] at hown0
  exact ⟨_, rfl, hown0, hb0⟩
end Go.Proofs.YtabgkfkjnpcbkaaDoor.Wr
namespace Go.Proofs.YtabgkfkjnpcbkaaDoor.Tr
open Go Go.RowKit Kt Lw Li Lx Df Wr

theorem conv_txt (s : List UInt8) (w : World) : ∃ cap ob, (convert 9 28 (.string ⟨s.toArray⟩)).run Tryd.prog w = .ok (.slice (some ⟨w.heap.size, 0, none⟩) s.length cap) (w.drew.alloc ob) ∧ Sl (w.drew.alloc ob) (fun _ => True) (some ⟨w.heap.size, 0, none⟩) cap s := by
  refine ⟨_, _, run_bytes_of_string w 9 28 5 ⟨s.toArray⟩ Tryd.underlying9 Tryd.underlying28 Tryd.underlying5, ?_, fun hn => ⟨_, 0, rfl, trivial, fun j hj => ?_⟩⟩
  · have := grownCap_ge w (ByteArray.size ⟨s.toArray⟩) 0 5
    simpa [ByteArray.size] using this
  · rw [Nat.zero_add, cell_of_row _ w.heap.size j _ _ _ (heap_alloc_new w.drew _), bytesRow_at _ _ _ (by simpa using hj)]
    simp [List.getElem?_eq_getElem hj]
theorem own_based {w : World} {B B' : Nat} {E : TypeId} {v : Value} {l : List UInt8} (h : Own w B E v l) (hb : B' ≤ B) : Own w B' E v l :=
  ⟨h.1, h.2.imp id fun ⟨g, cap, cur, hv, h1, h2⟩ => ⟨g, cap, cur, hv, Nat.le_trans hb h1, h2⟩⟩
theorem form_ten {n : Nat} (h : n < 18446744073709551616) : (form n).length ≤ 10 := form_short n 10 (by omega) (by omega)
theorem fFl_le {f : Fl} (h : f.path.length ≤ 200 ∧ f.text.length ≤ 65536) : (fFl f).length ≤ 65756 := by
  have h1 := form_ten (n := f.path.length) (by omega)
  have h2 := form_ten (n := f.text.length) (by omega)
  unfold fFl
  simp only [List.length_append]
  omega
theorem enc_le : ∀ {t : List Fl}, (∀ f ∈ t, f.path.length ≤ 200 ∧ f.text.length ≤ 65536) → (t.flatMap fFl).length ≤ t.length * 65756
  | [], _ => by simp
  | f :: t, h => by
    have h1 := fFl_le (h f (by simp))
    have h2 := enc_le (t := t) fun g hg => h g (by simp [hg])
    rw [List.flatMap_cons, List.length_append, List.length_cons, Nat.succ_mul]; omega
end Go.Proofs.YtabgkfkjnpcbkaaDoor.Tr
