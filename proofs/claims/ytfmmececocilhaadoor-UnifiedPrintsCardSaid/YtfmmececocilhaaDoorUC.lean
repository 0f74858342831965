/-
  Hunks as a text, on lists alone: what is printed is read; what is read, printed, is the text again.
-/
import Derived.Test.YtfmmececocilhaaDoorUB
namespace Go.Proofs.YtfmmececocilhaaDoor.Un
open Go Df Li Hu

theorem okF_snoc : ∀ (l : Ls) (p : Bool) (x : List UInt8), okF p (l ++ [x]) = (okF p l && (decide (sg x = 32 ∨ sg x = 45 ∨ sg x = 43) && !(decide (sg x = 45) && (match l.getLast? with | none => p | some y => decide (sg y = 43)))))
  | [], p, x => by simp [okF]
  | [y], p, x => by simp [okF]
  | y :: z :: l, p, x => by
    have ih := okF_snoc (z :: l) (decide (sg y = 43)) x
    have e1 : okF p (y :: z :: l ++ [x]) = ((decide (sg y = 32 ∨ sg y = 45 ∨ sg y = 43) && !(decide (sg y = 45) && p)) && okF (decide (sg y = 43)) (z :: l ++ [x])) := rfl
    have e2 : okF p (y :: z :: l) = ((decide (sg y = 32 ∨ sg y = 45 ∨ sg y = 43) && !(decide (sg y = 45) && p)) && okF (decide (sg y = 43)) (z :: l)) := rfl
    rw [e1, e2, ih, Bool.and_assoc, List.getLast?_cons_cons]
    cases hq : (z :: l).getLast? with
    | none => simp at hq
    | some u => simp only [Bool.and_assoc]
theorem sg_snoc {y : List UInt8} (b : UInt8) (h : y ≠ []) : sg (y ++ [b]) = sg y := by
  cases y with
  | nil => exact absurd rfl h
  | cons c y => rfl
theorem head_sg (a an b bn : Int) : sg (headT a an b bn) = 64 := rfl
theorem hd_mark : hd markB = none := by
  cases h : hd markB with
  | none => rfl
  | some k =>
    obtain ⟨_, _, _, e⟩ := hd_some h
    have := congrArg sg e
    rw [head_sg] at this
    exact absurd this (by decide)
theorem suffix_end (y : List UInt8) (b : UInt8) : Lib.hasSuffix (y ++ [b]) [10] = (b == 10) := by
  unfold Lib.hasSuffix
  rw [Bool.eq_iff_iff]
  constructor
  · intro h
    obtain ⟨t, e⟩ := List.isSuffixOf_iff_suffix.1 h
    have h2 := congrArg List.getLast? e
    simp at h2
    simp [h2]
  · intro h
    obtain rfl : b = 10 := by simpa using h
    exact List.isSuffixOf_iff_suffix.2 (List.suffix_append _ _)
theorem suffix_nil : Lib.hasSuffix [] [10] = false := by decide
theorem prefix_sg (y : List UInt8) : Lib.hasPrefix y [43] = decide (sg y = 43) := by
  cases y with
  | nil => decide
  | cons c y =>
    have e : Lib.hasPrefix (c :: y) [43] = (43 == c) := by simp [Lib.hasPrefix, List.isPrefixOf]
    rw [e]
    show (43 == c) = decide (c = 43)
    rw [Bool.eq_iff_iff, beq_iff_eq, decide_eq_true_iff]
    exact eq_comm
/-- a line's sides are those that its sign tells -/
theorem sds_many (x : List UInt8) (h : sg x = 32 ∨ sg x = 45 ∨ sg x = 43) : (sds x).1 = (many 45 [x] : Int) ∧ (sds x).2 = (many 43 [x] : Int) ∧ (sds x).1 + (sds x).2 ≠ 0 ∧ 0 ≤ (sds x).1 ∧ 0 ≤ (sds x).2 := by
  unfold sds
  rcases h with h | h | h <;> simp [h, many]
theorem sds_no (x : List UInt8) (h : ¬ (sg x = 32 ∨ sg x = 45 ∨ sg x = 43)) : sds x = (0, 0) := by
  simp only [not_or] at h
  unfold sds
  rw [if_neg h.1, if_neg h.2.1, if_neg h.2.2]
theorem many_one (s : UInt8) (x y : List UInt8) (h : sg x = sg y) : many s [x] = many s [y] := by simp [many, h]

/-- what a reader holds behind the lines ls -/
structure Inv1 (s : St) (e : Hk) (V : List Hk) (ls : Ls) : Prop where
  rv : s.rv = e :: V
  told : ∀ h ∈ V, tell h = true
  a : Sml e.a e.an
  b : Sml e.b e.bn
  ok : okF false e.lines = true
  one : ∀ x ∈ e.lines, lns x = [x]
  old : (many 45 e.lines : Int) + s.old = e.an
  new : (many 43 e.lines : Int) + s.fresh = e.bn
  o0 : 0 ≤ s.old
  f0 : 0 ≤ s.fresh
  ls : ls = (V.reverse.map hkL).flatten ++ hkL e
def Inv (s : St) (ls : Ls) : Prop := (s.rv = [] ∧ ls = [] ∧ s.old = 0 ∧ s.fresh = 0) ∨ ∃ e V, Inv1 s e V ls
theorem Inv1.tell {s : St} {e : Hk} {V : List Hk} {ls : Ls} (h : Inv1 s e V ls) (h1 : s.old = 0) (h2 : s.fresh = 0) : tell e = true := by
  have h3 := h.old
  have h4 := h.new
  exact tell_iff.2 ⟨h.ok, h.a, h.b, by omega, by omega, h.one⟩
theorem hkL_snoc (a an b bn : Int) (l : Ls) (x : List UInt8) : hkL ⟨a, an, b, bn, l ++ [x]⟩ = hkL ⟨a, an, b, bn, l⟩ ++ lineL x := by
  simp [hkL]
theorem noEnd_inv {s s' : St} {e : Hk} {V : List Hk} {ls : Ls} {x : List UInt8} (h : Inv1 s e V ls) (hs : noEnd s x = some s') : ∃ e', Inv1 s' e' V (ls ++ [x]) ∧ s'.old = s.old ∧ s'.fresh = s.fresh := by
  unfold noEnd at hs
  rw [h.rv] at hs
  simp only at hs
  split at hs
  · rename_i hc
    obtain ⟨rfl, hsf⟩ := hc
    injection hs with hs
    subst hs
    have hne : e.lines ≠ [] := fun hn => by rw [ahd, hn] at hsf; exact absurd hsf (by decide)
    obtain ⟨L, y, hL⟩ : ∃ L y, e.lines = L ++ [y] := ⟨_, _, (List.dropLast_concat_getLast hne).symm⟩
    have hah : ahd (e :: V) = y := by simp [ahd, hL]
    rw [hah] at hsf ⊢
    have hy := h.one y (by rw [hL]; simp)
    obtain ⟨z, b, rfl, hz⟩ := one_parts hy
    rw [suffix_end] at hsf
    obtain rfl : b = 10 := by simpa using hsf
    have hok := h.ok
    rw [hL, okF_snoc, Bool.and_eq_true, Bool.and_eq_true, decide_eq_true_iff] at hok
    have hzn : z ≠ [] := by
      rintro rfl
      have := hok.2.1
      revert this
      decide
    have hsg := sg_snoc 10 hzn
    have hd : (z ++ [10]).dropLast = z := by simp
    rw [hd, hL, List.dropLast_concat]
    obtain ⟨z', c, rfl⟩ : ∃ z' c, z = z' ++ [c] := ⟨_, _, (List.dropLast_concat_getLast hzn).symm⟩
    have hz1 : lns (z' ++ [c]) = [z' ++ [c]] := lns_one z' c (fun hm => hz (List.mem_append_left _ hm))
    have hcl : closed (z' ++ [c]) = false := by
      rw [closed_snoc]
      have : c ≠ 10 := fun e => hz (by rw [e]; simp)
      simpa using this
    have hmn : ∀ s : UInt8, many s (L ++ [z' ++ [c]]) = many s e.lines := fun s => by
      rw [hL, many_append, many_append, many_one s (z' ++ [c] ++ [10]) (z' ++ [c]) hsg]
    refine ⟨⟨e.a, e.an, e.b, e.bn, L ++ [z' ++ [c]]⟩, ⟨rfl, h.told, h.a, h.b, ?_, fun x hx => ?_, ?_, ?_, h.o0, h.f0, ?_⟩, rfl, rfl⟩
    · rw [okF_snoc, Bool.and_eq_true, Bool.and_eq_true, decide_eq_true_iff, ← hsg]
      exact hok
    · rcases List.mem_append.1 hx with hx | hx
      · exact h.one x (by rw [hL]; exact List.mem_append_left _ hx)
      · rw [List.mem_singleton.1 hx]; exact hz1
    · show (many 45 (L ++ [z' ++ [c]]) : Int) + s.old = e.an
      rw [hmn]; exact h.old
    · show (many 43 (L ++ [z' ++ [c]]) : Int) + s.fresh = e.bn
      rw [hmn]; exact h.new
    · have he : hkL e = hkL ⟨e.a, e.an, e.b, e.bn, L⟩ ++ [z' ++ [c] ++ [10]] := by
        have h1 : e = ⟨e.a, e.an, e.b, e.bn, L ++ [z' ++ [c] ++ [10]]⟩ := by rw [← hL]
        have h2 : lineL (z' ++ [c] ++ [10]) = [z' ++ [c] ++ [10]] := by rw [lineL, if_pos (by rw [closed_snoc]; rfl)]
        rw [h1, hkL_snoc, h2]
      have h2 : lineL (z' ++ [c]) = [z' ++ [c] ++ [10], markB] := by rw [lineL, if_neg (by rw [hcl]; simp)]
      rw [h.ls, he, hkL_snoc, h2]
      simp
  · cases hs
theorem inv_step {s s' : St} {ls : Ls} {x : List UInt8} (h : Inv s ls) (hx : lns x = [x]) (hs : step s x = some s') : Inv s' (ls ++ [x]) := by
  unfold step at hs
  split at hs
  · rename_i hw
    unfold stepH at hs
    split at hs
    · rename_i k hk
      injection hs with hs
      subst hs
      obtain ⟨k1, k2, k3, k4⟩ := hd_some hk
      refine .inr ⟨k, s.rv, rfl, ?_, k2, k3, by rw [k1]; rfl, by rw [k1]; simp, by rw [k1]; simp [many], by rw [k1]; simp [many], k2.2.1, k3.2.1, ?_⟩
      · rcases h with ⟨h1, _⟩ | ⟨e, V, h1⟩
        · rw [h1]; simp
        · rw [h1.rv]
          intro g hg
          rcases List.mem_cons.1 hg with hg | hg
          · rw [hg]; exact h1.tell hw.1 hw.2
          · exact h1.told g hg
      · have e1 : hkL k = [x] := by rw [hkL, k1, ← k4]; rfl
        rw [e1]
        rcases h with ⟨h1, h2, _⟩ | ⟨e, V, h1⟩
        · rw [h1, h2]; rfl
        · rw [h1.rv, h1.ls]; simp
    · rcases h with ⟨h1, _⟩ | ⟨e, V, h1⟩
      · unfold noEnd at hs
        rw [h1] at hs
        cases hs
      · obtain ⟨e', h2, _⟩ := noEnd_inv h1 hs
        exact .inr ⟨e', V, h2⟩
  · rename_i hw
    unfold stepL at hs
    split at hs
    · rcases h with ⟨h1, _⟩ | ⟨e, V, h1⟩
      · unfold noEnd at hs
        rw [h1] at hs
        cases hs
      · obtain ⟨e', h2, _⟩ := noEnd_inv h1 hs
        exact .inr ⟨e', V, h2⟩
    · rename_i hsd
      rcases h with ⟨_, _, h3, h4⟩ | ⟨e, V, h1⟩
      · exact absurd ⟨h3, h4⟩ hw
      · rw [h1.rv] at hs
        simp only at hs
        split at hs
        · rename_i hc
          obtain ⟨c1, c2, c3, c4⟩ := hc
          injection hs with hs
          subst hs
          have hsg : sg x = 32 ∨ sg x = 45 ∨ sg x = 43 := by
            refine Classical.byContradiction fun hn => hsd ?_
            rw [sds_no x hn]; rfl
          obtain ⟨d1, d2, _, d4, d5⟩ := sds_many x hsg
          have h5 := h1.old
          have h6 := h1.new
          have m1 := many_append 45 e.lines [x]
          have m2 := many_append 43 e.lines [x]
          refine .inr ⟨⟨e.a, e.an, e.b, e.bn, e.lines ++ [x]⟩, V, rfl, h1.told, h1.a, h1.b, ?_, fun y hy => ?_, ?_, ?_, ?_, ?_, ?_⟩
          · rw [okF_snoc, Bool.and_eq_true, Bool.and_eq_true, decide_eq_true_iff]
            refine ⟨h1.ok, hsg, ?_⟩
            rw [ahd] at c2
            cases hq : e.lines.getLast? with
            | none => simp
            | some y =>
              rw [hq] at c2
              by_cases h1 : sg x = 45
              · by_cases h2 : sg y = 43
                · exact absurd ⟨h1, h2⟩ c2
                · simp [h2]
              · simp [h1]
          · rcases List.mem_append.1 hy with hy | hy
            · exact h1.one y hy
            · rw [List.mem_singleton.1 hy]; exact hx
          · show (many 45 (e.lines ++ [x]) : Int) + (s.old - (sds x).1) = e.an
            rw [m1]; omega
          · show (many 43 (e.lines ++ [x]) : Int) + (s.fresh - (sds x).2) = e.bn
            rw [m2]; omega
          · show 0 ≤ s.old - (sds x).1
            omega
          · show 0 ≤ s.fresh - (sds x).2
            omega
          · have h2 : lineL x = [x] := by rw [lineL, if_pos c1]
            rw [hkL_snoc, h2, h1.ls, List.append_assoc]
        · cases hs
theorem inv_run : ∀ (l : Ls) (s s' : St) (ls : Ls) (n m : Nat), Inv s ls → (∀ x ∈ l, lns x = [x]) → run s l n = (m, some s') → Inv s' (ls ++ l)
  | [], s, s', ls, n, m, h, _, hr => by
    rw [run] at hr
    injection hr with _ hr
    injection hr with hr
    rw [← hr, List.append_nil]; exact h
  | x :: l, s, s', ls, n, m, h, hl, hr => by
    rw [run] at hr
    cases hq : step s x with
    | none => rw [hq] at hr; simp at hr
    | some s2 =>
      rw [hq] at hr
      have := inv_run l s2 s' (ls ++ [x]) _ _ (inv_step h (hl x List.mem_cons_self) hq) (fun y hy => hl y (List.mem_cons_of_mem _ hy)) hr
      simpa using this
theorem lns_ones : ∀ t : List UInt8, ∀ x ∈ lns t, lns x = [x]
  | [], x, h => by cases h
  | b :: r, x, h => by
    have ih := lns_ones r
    rw [lns_cons] at h
    by_cases hb : b = 10
    · rw [if_pos hb] at h
      rcases List.mem_cons.1 h with h | h
      · rw [h, hb]; rfl
      · exact ih x h
    · rw [if_neg hb] at h
      cases hq : lns r with
      | nil =>
        rw [hq] at h
        obtain rfl : x = [b] := by simpa using h
        simp [lns, hb]
      | cons u q =>
        rw [hq] at h ih
        rcases List.mem_cons.1 h with h | h
        · have h1 := ih u List.mem_cons_self
          rw [h, lns_cons, if_neg hb, h1]
        · exact ih x (List.mem_cons_of_mem _ h)
/-- what is read, printed, is the text again -/
theorem parse_some {t : List UInt8} {l : List Hk} {n : Nat} (h : parse t = (l, n, 0)) : n = 0 ∧ l.all tell = true ∧ prt l = t := by
  unfold parse fin at h
  split at h
  · cases h
  · rename_i s hs
    split at h
    · rename_i hw
      injection h with h1 h2
      injection h2 with h2 _
      have hi := inv_run (lns t) ⟨[], 0, 0⟩ s [] 0 _ (.inl ⟨rfl, rfl, rfl, rfl⟩) (lns_ones t) (Prod.ext rfl hs)
      rw [List.nil_append] at hi
      have key : l.all tell = true ∧ lns t = (l.map hkL).flatten := by
        rcases hi with ⟨h3, h4, _⟩ | ⟨e, V, h3⟩
        · rw [← h1, h3, h4]; exact ⟨rfl, rfl⟩
        · rw [← h1, h3.rv]
          constructor
          · rw [List.all_eq_true]
            intro g hg
            rcases List.mem_cons.1 (List.mem_reverse.1 hg) with hg | hg
            · rw [hg]; exact h3.tell hw.1 hw.2
            · exact h3.told g hg
          · rw [h3.ls]; simp
      refine ⟨h2.symm, key.1, ?_⟩
      rw [prt, if_pos key.1, ← hks_flat, ← key.2, lns_flat]
    · cases h
set_option maxHeartbeats 400000 in
theorem step_mark (a an b bn : Int) (L1 : Ls) (x : List UInt8) (V : List Hk) (o f : Int) : step ⟨⟨a, an, b, bn, L1 ++ [x ++ [10]]⟩ :: V, o, f⟩ markB = some ⟨⟨a, an, b, bn, L1 ++ [x]⟩ :: V, o, f⟩ := by
  have hn : noEnd ⟨⟨a, an, b, bn, L1 ++ [x ++ [10]]⟩ :: V, o, f⟩ markB = some ⟨⟨a, an, b, bn, L1 ++ [x]⟩ :: V, o, f⟩ := by
    have ha : ahd (⟨a, an, b, bn, L1 ++ [x ++ [10]]⟩ :: V) = x ++ [10] := by simp [ahd]
    have hc : markB = markB ∧ Lib.hasSuffix (ahd (⟨a, an, b, bn, L1 ++ [x ++ [10]]⟩ :: V)) [10] = true := ⟨rfl, by rw [ha, suffix_end]; rfl⟩
    have h1 : noEnd ⟨⟨a, an, b, bn, L1 ++ [x ++ [10]]⟩ :: V, o, f⟩ markB = some ⟨⟨a, an, b, bn, (L1 ++ [x ++ [10]]).dropLast ++ [(ahd (⟨a, an, b, bn, L1 ++ [x ++ [10]]⟩ :: V)).dropLast]⟩ :: V, o, f⟩ := if_pos hc
    rw [h1, ha, List.dropLast_concat, List.dropLast_concat]
  by_cases hw : o = 0 ∧ f = 0
  · have h3 : stepH ⟨⟨a, an, b, bn, L1 ++ [x ++ [10]]⟩ :: V, o, f⟩ markB = noEnd ⟨⟨a, an, b, bn, L1 ++ [x ++ [10]]⟩ :: V, o, f⟩ markB := by
      unfold stepH
      rw [hd_mark]
    rw [step, if_pos hw, h3, hn]
  · have h0 : sds markB = (0, 0) := sds_no markB (by decide)
    have h2 : (sds markB).1 + (sds markB).2 = 0 := by rw [h0]; rfl
    rw [step, if_neg hw, stepL, if_pos h2]; exact hn
theorem run_some {s s' : St} {x : List UInt8} (h : step s x = some s') (l : Ls) (n : Nat) : run s (x :: l) n = run s' l (n + 1) := by rw [run, h]
/-- a hunk's lines are read -/
theorem run_lines (a an b bn : Int) (V : List Hk) (l : Ls) : ∀ (L2 L1 : Ls) (o f : Int) (n : Nat), okF false (L1 ++ L2) = true → (∀ x ∈ L2, lns x = [x]) → o = many 45 L2 → f = many 43 L2 →
    run ⟨⟨a, an, b, bn, L1⟩ :: V, o, f⟩ ((L2.map lineL).flatten ++ l) n = run ⟨⟨a, an, b, bn, L1 ++ L2⟩ :: V, 0, 0⟩ l (n + (L2.map lineL).flatten.length)
  | [], L1, o, f, n, _, _, ho, hf => by
    simp [many] at ho hf
    subst ho hf
    simp
  | x :: L2, L1, o, f, n, hok, hone, ho, hf => by
    have hok' : okF false ((L1 ++ [x]) ++ L2) = true := by simpa using hok
    have hx := hone x List.mem_cons_self
    have hok1 : okF false (L1 ++ [x]) = true := by
      have : ∀ (l r : Ls) (p : Bool), okF p (l ++ r) = true → okF p l = true := by
        intro l
        induction l with
        | nil => intro r p _; rfl
        | cons y l ih =>
          intro r p h
          rw [List.cons_append, okF, Bool.and_eq_true] at h
          rw [okF, Bool.and_eq_true]
          exact ⟨h.1, ih r _ h.2⟩
      exact this _ _ _ hok'
    rw [okF_snoc, Bool.and_eq_true, Bool.and_eq_true, decide_eq_true_iff] at hok1
    obtain ⟨_, hsg, hbeh⟩ := hok1
    have h45 : many 45 (x :: L2) = many 45 [x] + many 45 L2 := many_append 45 [x] L2
    have h43 : many 43 (x :: L2) = many 43 [x] + many 43 L2 := many_append 43 [x] L2
    have ih := run_lines a an b bn V l L2 (L1 ++ [x]) (many 45 L2) (many 43 L2)
    -- the line with its end is taken
    have key : ∀ (y : List UInt8) (n : Nat) (r : Ls), closed y = true → sg y = sg x → run ⟨⟨a, an, b, bn, L1⟩ :: V, o, f⟩ (y :: r) n = run ⟨⟨a, an, b, bn, L1 ++ [y]⟩ :: V, many 45 L2, many 43 L2⟩ r (n + 1) := by
      intro y n r hy hsy
      have hsgy : sg y = 32 ∨ sg y = 45 ∨ sg y = 43 := by rw [hsy]; exact hsg
      obtain ⟨d1, d2, d3, d4, d5⟩ := sds_many y hsgy
      rw [many_one 45 y x hsy] at d1
      rw [many_one 43 y x hsy] at d2
      have hw : ¬ (o = 0 ∧ f = 0) := by omega
      have hst : step ⟨⟨a, an, b, bn, L1⟩ :: V, o, f⟩ y = some ⟨⟨a, an, b, bn, L1 ++ [y]⟩ :: V, many 45 L2, many 43 L2⟩ := by
        rw [step, if_neg hw, stepL, if_neg d3]
        simp only
        rw [if_pos]
        · have e1 : o - (sds y).1 = many 45 L2 := by omega
          have e2 : f - (sds y).2 = many 43 L2 := by omega
          rw [e1, e2]
        · refine ⟨hy, ?_, by omega, by omega⟩
          rw [hsy, ahd]
          intro hc
          simp only at hc
          cases hq : L1.getLast? with
          | none => rw [hq] at hc; exact absurd hc.2 (by decide)
          | some z => rw [hq] at hc hbeh; simp [hc.1] at hbeh; exact hbeh (by simpa using hc.2)
      exact run_some hst r n
    simp only [List.map_cons, List.flatten_cons, List.append_assoc]
    cases hc : closed x with
    | true =>
      have h2 : lineL x = [x] := by rw [lineL, if_pos hc]
      rw [h2, List.singleton_append, key x n _ hc rfl, ih (n + 1) hok' (fun y hy => hone y (List.mem_cons_of_mem _ hy)) rfl rfl]
      simp [Nat.add_assoc, Nat.add_comm 1]
    | false =>
      have h2 : lineL x = [x ++ [10], markB] := by rw [lineL, if_neg (by rw [hc]; simp)]
      have hxn := one_ne hx
      rw [h2, List.cons_append, key (x ++ [10]) n _ (by rw [closed_snoc]; rfl) (sg_snoc 10 hxn), List.cons_append, List.nil_append]
      rw [run_some (step_mark a an b bn L1 x V (many 45 L2) (many 43 L2)), ih (n + 1 + 1) hok' (fun y hy => hone y (List.mem_cons_of_mem _ hy)) rfl rfl]
      have e1 : (L1 ++ [x]) ++ L2 = L1 ++ x :: L2 := by rw [List.append_assoc]; rfl
      have e2 : n + 1 + 1 + (L2.map lineL).flatten.length = n + ((x ++ [10]) :: markB :: (L2.map lineL).flatten).length := by rw [List.length_cons, List.length_cons]; omega
      rw [e1, e2, List.cons_append, List.cons_append, List.nil_append]
theorem step_head {s : St} {x : List UInt8} {h : Hk} (h0 : s.old = 0) (h1 : s.fresh = 0) (hh : hd x = some h) : step s x = some ⟨h :: s.rv, h.an, h.bn⟩ := by
  unfold step stepH
  rw [if_pos ⟨h0, h1⟩, hh]
theorem run_hk {e : Hk} (h : tell e = true) (V : List Hk) (l : Ls) (n : Nat) : run ⟨V, 0, 0⟩ (hkL e ++ l) n = run ⟨e :: V, 0, 0⟩ l (n + (hkL e).length) := by
  obtain ⟨p1, p2, p3, p4, p5, p6⟩ := tell_iff.1 h
  have hst : step ⟨V, 0, 0⟩ (headT e.a e.an e.b e.bn) = some ⟨⟨e.a, e.an, e.b, e.bn, []⟩ :: V, e.an, e.bn⟩ := by
    exact step_head (s := ⟨V, 0, 0⟩) rfl rfl (hd_head p2 p3)
  rw [hkL, List.cons_append, run_some hst, run_lines e.a e.an e.b e.bn V l e.lines [] e.an e.bn (n + 1) (by simpa using p1) p6 p4 p5]
  simp [Nat.add_assoc, Nat.add_comm 1]
theorem run_hks : ∀ (L : List Hk) (V : List Hk) (l : Ls) (n : Nat), L.all tell = true → run ⟨V, 0, 0⟩ ((L.map hkL).flatten ++ l) n = run ⟨L.reverse ++ V, 0, 0⟩ l (n + (L.map hkL).flatten.length)
  | [], V, l, n, _ => by simp
  | e :: L, V, l, n, h => by
    rw [List.all_cons, Bool.and_eq_true] at h
    simp only [List.map_cons, List.flatten_cons, List.append_assoc]
    rw [run_hk h.1, run_hks L (e :: V) l _ h.2]
    simp [Nat.add_assoc]
/-- what is printed is read -/
theorem parse_prt {l : List Hk} (h : l.all tell = true) : parse (prt l) = (l, 0, 0) := by
  have h1 := run_hks l [] [] 0 h
  rw [List.append_nil] at h1
  rw [parse, prt_lns h, h1, List.append_nil, run, fin]
  simp
end Go.Proofs.YtfmmececocilhaaDoor.Un
