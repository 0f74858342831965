/-
  Changes of two sides; what is between two trees. On lists alone: no program is named here.
-/
import Derived.Test.YtahcokfoifdlmaaGreatDoorQNA
import Derived.BigQuiet
import Derived.Laws.StructEq
import Derived.Test.YtahcokfoifdlmaaGreatDoorQWS
namespace Go.Proofs.YtahcokfoifdlmaaGreatDoor.Tr
open Go

/-- the changes of one side, and of the other one -/
def sides : List Ch → List Bool → List Ch × List Ch
  | [], _ => ([], [])
  | c :: l, [] => ((sides l []).1, c :: (sides l []).2)
  | c :: l, b :: s => if b then (c :: (sides l s).1, (sides l s).2) else ((sides l s).1, c :: (sides l s).2)
theorem sides_mem : ∀ {l : List Ch} {s : List Bool} {c : Ch}, c ∈ l ↔ c ∈ (sides l s).1 ∨ c ∈ (sides l s).2
  | [], _, c => by simp [sides]
  | d :: l, [], c => by
    rw [sides, List.mem_cons, List.mem_cons, sides_mem (l := l) (s := [])]
    constructor
    · rintro (h | h | h)
      · exact .inr (.inl h)
      · exact .inl h
      · exact .inr (.inr h)
    · rintro (h | h | h)
      · exact .inr (.inl h)
      · exact .inl h
      · exact .inr (.inr h)
  | d :: l, b :: s, c => by
    rw [sides, List.mem_cons, sides_mem (l := l) (s := s)]
    cases b with
    | true =>
      rw [if_pos rfl, List.mem_cons]
      constructor
      · rintro (h | h | h)
        · exact .inl (.inl h)
        · exact .inl (.inr h)
        · exact .inr h
      · rintro ((h | h) | h)
        · exact .inl h
        · exact .inr (.inl h)
        · exact .inr (.inr h)
    | false =>
      rw [if_neg (by decide), List.mem_cons]
      constructor
      · rintro (h | h | h)
        · exact .inr (.inl h)
        · exact .inl h
        · exact .inr (.inr h)
      · rintro (h | h | h)
        · exact .inr (.inl h)
        · exact .inl h
        · exact .inr (.inr h)
theorem sides_len : ∀ (l : List Ch) (s : List Bool), (sides l s).1.length + (sides l s).2.length = l.length
  | [], _ => rfl
  | c :: l, [] => by
    have := sides_len l []
    rw [sides]
    simp only [List.length_cons]; omega
  | c :: l, b :: s => by
    have := sides_len l s
    rw [sides]
    split <;> (simp only [List.length_cons]; omega)
theorem sides_go : ∀ {p : Option Bs} {l : List Ch} (s : List Bool), cgo p l = true → cgo p (sides l s).1 = true ∧ cgo p (sides l s).2 = true ∧ ∀ c ∈ (sides l s).1, ∀ d ∈ (sides l s).2, c.path ≠ d.path
  | p, [], _, _ => ⟨rfl, rfl, fun c hc => by cases hc⟩
  | p, c :: l, [], h => by
    obtain ⟨h1, h2, h3, h4, h5⟩ := cgo_cons h
    obtain ⟨i1, i2, i3⟩ := sides_go [] h5
    have hin : ∀ x ∈ (sides l []).1, lt c.path x.path = true := fun x hx => (cgo_above i1 x hx).1
    rw [sides]
    refine ⟨cgo_weak i1 fun x hx => above_trans h4 (hin x hx), cgo_of h1 h2 h3 h4 i2, fun x hx d hd => ?_⟩
    rcases List.mem_cons.1 hd with k | k
    · rw [k]; exact (lt_ne (hin x hx)).symm
    · exact i3 x hx d k
  | p, c :: l, b :: s, h => by
    obtain ⟨h1, h2, h3, h4, h5⟩ := cgo_cons h
    obtain ⟨i1, i2, i3⟩ := sides_go s h5
    have hin1 : ∀ x ∈ (sides l s).1, lt c.path x.path = true := fun x hx => (cgo_above i1 x hx).1
    have hin2 : ∀ x ∈ (sides l s).2, lt c.path x.path = true := fun x hx => (cgo_above i2 x hx).1
    rw [sides]
    cases b with
    | true =>
      rw [if_pos rfl]
      refine ⟨cgo_of h1 h2 h3 h4 i1, cgo_weak i2 fun x hx => above_trans h4 (hin2 x hx), fun x hx d hd => ?_⟩
      rcases List.mem_cons.1 hx with k | k
      · rw [k]; exact lt_ne (hin2 d hd)
      · exact i3 x k d hd
    | false =>
      rw [if_neg (by decide)]
      refine ⟨cgo_weak i1 fun x hx => above_trans h4 (hin1 x hx), cgo_of h1 h2 h3 h4 i2, fun x hx d hd => ?_⟩
      rcases List.mem_cons.1 hd with k | k
      · rw [k]; exact (lt_ne (hin1 x hx)).symm
      · exact i3 x hx d k
/-- one side's changes, and then the other one's, are all -/
theorem play_sides {l x y : List Ch} {t : List Fl} (hl : cgo none l = true) (hx : cgo none x = true) (hy : cgo none y = true) (ht : go none t = true) (hm : ∀ c, c ∈ l ↔ c ∈ x ∨ c ∈ y) (hd : ∀ c ∈ x, ∀ d ∈ y, c.path ≠ d.path) (hn : t.length + l.length + x.length + y.length ≤ 1000) :
    play (play t x) y = play t l := by
  obtain ⟨a1, a2, a3⟩ := play_any hl ht (by omega)
  obtain ⟨b1, b2, b3⟩ := play_any hx ht (by omega)
  obtain ⟨c1, _, c3⟩ := play_any hy b1 (by omega)
  refine go_ext c1 a1 fun f => ?_
  rw [c3, a3, b3]
  constructor
  · rintro (⟨c, hc, h⟩ | ⟨⟨c, hc, h⟩ | ⟨hf, h1⟩, h2⟩)
    · exact .inl ⟨c, (hm c).2 (.inr hc), h⟩
    · exact .inl ⟨c, (hm c).2 (.inl hc), h⟩
    · refine .inr ⟨hf, fun c hc => ?_⟩
      rcases (hm c).1 hc with k | k
      · exact h1 c k
      · exact h2 c k
  · rintro (⟨c, hc, h⟩ | ⟨hf, h1⟩)
    · rcases (hm c).1 hc with k | k
      · exact .inr ⟨.inl ⟨c, k, h⟩, fun d hd' => by rw [h.2]; exact hd c k d hd'⟩
      · exact .inl ⟨c, k, h⟩
    · exact .inr ⟨.inr ⟨hf, fun c hc => h1 c ((hm c).2 (.inl hc))⟩, fun c hc => h1 c ((hm c).2 (.inr hc))⟩
theorem one_of_right (mg : Bs → Bs → Bs → Bs × Nat) {o a b : List Fl} {p : Bs} (h : get a p = get o p) : one mg o a b p = ((get b p).1, (get b p).2, false) := by
  unfold one
  by_cases h1 : get a p = get b p ∨ get b p = get o p
  · rw [if_pos h1]
    have : get a p = get b p := h1.elim id fun h2 => h.trans h2.symm
    rw [this]
  · rw [if_neg h1, if_pos h]
theorem one_of_left (mg : Bs → Bs → Bs → Bs × Nat) {o a b : List Fl} {p : Bs} (h : get b p = get o p) : one mg o a b p = ((get a p).1, (get a p).2, false) := by
  unfold one
  rw [if_pos (.inr h)]
/-- changes of unlike files, put together, are all done -/
theorem trees_blend (mg : Bs → Bs → Bs → Bs × Nat) {l x y : List Ch} {t : List Fl} (hl : cgo none l = true) (hx : cgo none x = true) (hy : cgo none y = true) (ht : go none t = true) (hm : ∀ c, c ∈ l ↔ c ∈ x ∨ c ∈ y) (hd : ∀ c ∈ x, ∀ d ∈ y, c.path ≠ d.path) (hn : 2 * t.length + l.length + x.length + y.length ≤ 1000) :
    trees mg t (play t x) (play t y) = (play t l, []) := by
  obtain ⟨a1, a2, a3⟩ := play_any hl ht (by omega)
  obtain ⟨b1, b2, b3⟩ := play_any hx ht (by omega)
  obtain ⟨c1, c2, c3⟩ := play_any hy ht (by omega)
  rw [trees_is mg t (by omega)]
  have hh : ∀ p, one mg t (play t x) (play t y) p = ((get (play t l) p).1, (get (play t l) p).2, false) := fun p => by
    by_cases h1 : ∃ c ∈ x, c.path = p
    · obtain ⟨c, hc, rfl⟩ := h1
      rw [one_of_left mg (play_get_out hy ht (by omega) fun d hd' e => hd c hc d hd' e.symm), play_get_in hx ht (by omega) hc, play_get_in hl ht (by omega) ((hm c).2 (.inl hc))]
    · have k1 : ∀ c ∈ x, c.path ≠ p := fun c hc e => h1 ⟨c, hc, e⟩
      rw [one_of_right mg (play_get_out hx ht (by omega) k1)]
      by_cases h2 : ∃ c ∈ y, c.path = p
      · obtain ⟨c, hc, rfl⟩ := h2
        rw [play_get_in hy ht (by omega) hc, play_get_in hl ht (by omega) ((hm c).2 (.inr hc))]
      · have k2 : ∀ c ∈ y, c.path ≠ p := fun c hc e => h2 ⟨c, hc, e⟩
        rw [play_get_out hy ht (by omega) k2, play_get_out hl ht (by omega) fun c hc => ((hm c).1 hc).elim (k1 c) (k2 c)]
  obtain ⟨e1, e2⟩ := outs_all a1 (asc_both (play t x) (play t y)) (fun p hp => can_both b1 c1 hp) hh fun f hf => mem_both.2 (by
    rcases (a3 f).1 hf with ⟨c, hc, hg⟩ | ⟨hf, ha⟩
    · rcases (hm c).1 hc with k | k
      · exact .inl ⟨f, (b3 f).2 (.inl ⟨c, k, hg⟩), rfl⟩
      · exact .inr ⟨f, (c3 f).2 (.inl ⟨c, k, hg⟩), rfl⟩
    · exact .inl ⟨f, (b3 f).2 (.inr ⟨hf, fun c hc => ha c ((hm c).2 (.inl hc))⟩), rfl⟩)
  rw [e1, e2]
/-- what is between two trees, at a path -/
def chOf (a b : List Fl) (p : Bs) : Option Ch := if get a p = get b p then none else some ⟨p, !(get b p).2, (get b p).1⟩
def betw (a b : List Fl) : List Ch := (both a b).filterMap (chOf a b)
end Go.Proofs.YtahcokfoifdlmaaGreatDoor.Tr
namespace Go.Proofs.YtahcokfoifdlmaaGreatDoor.Tr
open Go Wr

theorem form_len {n : Nat} (h : n < 18446744073709551616) : (form n).length ≤ 10 := by
  have := form_short n 10 (by omega) (by omega)
  omega
theorem txt_len {s : Bs} (h : s.length < 18446744073709551616) : (txt s).length ≤ s.length + 10 := by
  have := form_len h
  unfold txt
  rw [List.length_append]; omega
theorem fCh_len {c : Ch} (h : c.path.length < 18446744073709551616) (h' : c.text.length < 18446744073709551616) : (fCh c).length ≤ c.path.length + c.text.length + 30 := by
  have h1 := txt_len h
  have h2 := txt_len h'
  have h3 := form_len (n := if c.gone then 1 else 0) (by split <;> omega)
  unfold fCh
  rw [List.length_append, List.length_append]; omega
end Go.Proofs.YtahcokfoifdlmaaGreatDoor.Tr
namespace Go.Proofs.YtahcokfoifdlmaaGreatDoor.Tr
open Go Go.RowKit Kt Lw Li Lx Df

theorem run_ne_change (f g : Ch) (w : World) : (binOp .neq tC (.agg #[.string ⟨f.path.toArray⟩, .bool f.gone, .string ⟨f.text.toArray⟩]) (.agg #[.string ⟨g.path.toArray⟩, .bool g.gone, .string ⟨g.text.toArray⟩])).run Tryz.prog w = .ok (.bool (decide (f ≠ g))) w := by
  have hu := Tryz.underlying32
  have hs := Tryz.underlying9
  have hb := Tryz.underlying4
  have c1 : Tryz.prog.cellsOf 9 = 1 := by kernel_rfl
  have c2 : Tryz.prog.cellsOf 4 = 1 := by kernel_rfl
  rw [run_neq_struct, run_equalIn_struct _ _ _ _ _ (by unfold Program.fieldsOf; rw [hu]) (by kernel_rfl)]
  unfold Program.fieldsOf
  rw [hu]
  simp [go_sem, Op.eqFields, hs, hb]
  obtain ⟨p, m, x⟩ := f
  obtain ⟨q, n, y⟩ := g
  by_cases h1 : p = q
  · by_cases h2 : x = y
    · by_cases h3 : m = n <;> simp [h1, h2, h3]
    · by_cases h3 : m = n <;> simp [h1, h2, h3]
  · simp [h1]
set_option maxRecDepth 100000 in
set_option maxHeartbeats 2000000 in
theorem changes_any (t u : List Ch) (A A' : Option Addr) (c c' : Nat) (w : World) (hs : Chs w A c t) (hs' : Chs w A' c' u) (hn : t.length ≤ 1000000) :
    Calls Tryz.prog 16 #[.slice A t.length c, .slice A' u.length c'] w fun y w' => y = .returned (.bool (decide (t = u))) ∧ Below w.heap.size w w' := by
  by_cases hlen : t.length = u.length
  · have Hs := hide hs
    have Hs' := hide hs'
    obtain ⟨N, hN⟩ : ∃ N, N = t.length := ⟨_, rfl⟩
    have hN' : N = u.length := by omega
    rw [← hlen, ← hN]
    rw [← hN] at hn
    have HN := hide hN
    have HN' := hide hN'
    clear hs hs' hN hN' hlen
    go_enter Tryz.func16, Tryz.ntmps16
    go_wp2
    go_loopw [5] (fun i wr => ∃ k : Nat, k ≤ N ∧ i = .int .i64 k ∧ Hid (decide (t = u) = decide (t.drop k = u.drop k)) ∧ Below w.heap.size w wr) (fun i _ => N - (intOf i).toNat)
    case atStart => exact ⟨0, Nat.zero_le _, rfl, by show Hid _; exact hide rfl, Below.refl _ _⟩
    case round =>
      obtain ⟨k, hk, rfl, HR, hb⟩ := hrel
      have Hb := hide hb
      clear hb
      by_cases hlt : k < N
      · obtain ⟨b, o, f, rfl, hbl, hf, hd, d0, dm, d1⟩ := Hs.out.at (w' := wr) Hb.out (k := k) (by have := HN.out; omega)
        obtain ⟨b', o', g, rfl, hbl', hg, hd', e0, em, e1⟩ := Hs'.out.at (w' := wr) Hb.out (k := k) (by have := HN'.out; omega)
        have hr := HR.out
        rw [hd, hd'] at hr
        have hne := fun w => run_ne_change f g w
        obtain ⟨x, hx⟩ : ∃ x, x = f.text := ⟨_, rfl⟩
        obtain ⟨p, hp⟩ : ∃ p, p = f.path := ⟨_, rfl⟩
        obtain ⟨m, hm⟩ : ∃ m, m = f.gone := ⟨_, rfl⟩
        obtain ⟨n, hn'⟩ : ∃ n, n = g.gone := ⟨_, rfl⟩
        obtain ⟨y, hy⟩ : ∃ y, y = g.text := ⟨_, rfl⟩
        obtain ⟨q, hq⟩ : ∃ q, q = g.path := ⟨_, rfl⟩
        rw [← hx] at d1
        rw [← hm] at dm
        rw [← hn'] at em
        rw [← hp] at d0
        rw [← hy] at e1
        rw [← hq] at e0
        rw [← hx, ← hp, ← hy, ← hq, ← hm, ← hn'] at hne
        clear hx hp hy hq hm hn' hf hg hd hd' HR hbl hbl'
        by_cases he : f = g
        · rw [decide_eq_false (show ¬ f ≠ g from fun h => h he)] at hne
          have Hr := hide (show decide (t = u) = decide (t.drop (k + 1) = u.drop (k + 1)) by rw [hr, he]; simp)
          clear hr he
          go_wp2
          go_quiet (fail)
          go_wp2
          exact ⟨⟨k + 1, by omega, by go_num, by show Hid _; exact hide Hr.out, below_drewN Hb.out _⟩, by simp [intOf]; omega⟩
        · rw [decide_eq_true (show f ≠ g from he)] at hne
          have Hr := hide (show decide (t = u) = false by rw [hr, decide_eq_false_iff_not]; intro h; exact he (List.cons.inj h).1)
          clear hr he
          go_wp2
          go_quiet (fail)
          go_wp2
          go_ret
          exact ⟨by rw [Hr.out]; rfl, below_drewN Hb.out _⟩
      · obtain rfl : k = N := by omega
        have Hr := hide (show decide (t = u) = true by
          rw [HR.out, decide_eq_true_iff, List.drop_of_length_le (by have := HN.out; omega), List.drop_of_length_le (by have := HN'.out; omega)])
        clear HR
        go_wp2
        go_ret
        exact ⟨by rw [Hr.out]; rfl, Hb.out⟩
  · have Hr := hide (show decide (t = u) = false from decide_eq_false fun h => hlen (by rw [h]))
    obtain ⟨N, hN⟩ : ∃ N, N = t.length := ⟨_, rfl⟩
    obtain ⟨M, hM⟩ : ∃ N, N = u.length := ⟨_, rfl⟩
    rw [← hN, ← hM] at hlen ⊢
    have d1 : ((N : Int) != (M : Int)) = true := by rw [bne_iff_ne]; omega
    have d2 : (N != M) = true := by rw [bne_iff_ne]; exact hlen
    clear hs hs' hn hN hM
    go_enter Tryz.func16, Tryz.ntmps16
    go_wp2
    go_ret
    exact ⟨by rw [Hr.out]; rfl, Below.refl _ _⟩
end Go.Proofs.YtahcokfoifdlmaaGreatDoor.Tr
namespace Go.Proofs.YtahcokfoifdlmaaGreatDoor.Tr
open Go Wr

/-- the changes of a patch without anything else -/
abbrev only (l : List Ch) : Pch := ⟨[], [], [], l⟩
/-- how much of a patch is looked at -/
def sumP (p : Pch) : Nat := min p.author.length 2000 + min p.note.length 2000 + ((p.ids.take 20).map fun x => min x.length 1000).sum + ((p.chs.take 20).map fun c => min c.path.length 1000 + min c.text.length 1000).sum
def fewP (p : Pch) : Bool := decide (p.ids.length ≤ 18) && decide (p.chs.length ≤ 12) && decide (sumP p ≤ 1500)
theorem fewP_is {p : Pch} (h : fewP p = true) : p.ids.length ≤ 18 ∧ p.chs.length ≤ 12 ∧ p.author.length ≤ 1500 ∧ p.note.length ≤ 1500 := by
  simp only [fewP, Bool.and_eq_true, decide_eq_true_eq] at h
  obtain ⟨⟨h1, h2⟩, h3⟩ := h
  unfold sumP at h3
  omega
end Go.Proofs.YtahcokfoifdlmaaGreatDoor.Tr
