/-
  patches: of some conditions, does one hold?
-/
import Derived.BigQuiet
import Derived.Test.YtahcokfoifdlmaaGreatDoorQNA
import Derived.Test.YtahcokfoifdlmaaGreatDoorTR
namespace Go.Proofs.YtahcokfoifdlmaaGreatDoor.Tr
open Go Go.RowKit Kt Lw Li Lx Df

theorem leq_eq (p q : Bs) : (Op.bytesLess p q || p == q) = !lt q p := by
  rcases lt_tri p q with h | h | h
  · rw [lt_asymm h, show Op.bytesLess p q = true from h]; rfl
  · subst h; rw [lt_irr]; simp
  · rw [h, show Op.bytesLess p q = false from lt_asymm h, show (p == q) = false by rw [beq_eq_false_iff_ne]; exact (lt_ne h).symm]; rfl
abbrev tB : TypeId := 4
theorem any_next {l : List Bool} {k : Nat} (_hk : k < l.length) (h0 : (l.take k).any id = false) (hx : l[k]? = some false) : (l.take (k + 1)).any id = false := by
  rw [List.take_add_one, hx, List.any_append, h0]
  rfl
theorem any_yes {l : List Bool} {k : Nat} (hx : l[k]? = some true) : l.any id = true := by
  rw [List.any_eq_true]
  exact ⟨true, List.mem_of_getElem? hx, rfl⟩
set_option maxRecDepth 100000 in
set_option maxHeartbeats 2000000 in
theorem index_any (l : List Bool) (b o c : Nat) (w : World) (hc : ∀ j x, l[j]? = some x → w.cell? ⟨b, o + j, none⟩ = some (.bool x)) (hl : l.length ≤ c) (hn : l.length ≤ 1000) :
    Calls Tryz.prog 76 #[.slice (some ⟨b, o, none⟩) l.length c, .bool true] w fun y w' => ∃ i : Int, y = .returned (.int .i64 i) ∧ decide (0 ≤ i) = l.any id ∧ w' = w := by
  have HC := hide hc
  obtain ⟨N, hN⟩ : ∃ N, N = l.length := ⟨_, rfl⟩
  rw [← hN] at hl hn ⊢
  have HN := hide hN
  clear hc hN
  go_enter Tryz.func76, Tryz.ntmps76
  go_wp2
  go_loopw [8] (fun i wr => ∃ k : Nat, k ≤ N ∧ i = .int .i64 k ∧ Hid ((l.take k).any id = false) ∧ w = wr) (fun i _ => N - (intOf i).toNat)
  case atStart => exact ⟨0, Nat.zero_le _, rfl, by show Hid _; exact hide (by simp), rfl⟩
  case round =>
    obtain ⟨k, hk, rfl, HR, rfl⟩ := hrel
    by_cases hlt : k < N
    · have hkl : k < l.length := by rw [← HN.out]; exact hlt
      have hx := List.getElem?_eq_getElem hkl
      obtain ⟨x, hxx⟩ : ∃ x, x = l[k] := ⟨_, rfl⟩
      rw [← hxx] at hx
      have ck := HC.out k x hx
      cases x with
      | true =>
        have Hr := hide (any_yes hx)
        clear hx hxx hkl
        go_wp2
        go_ret
        exact ⟨_, rfl, by rw [Hr.out]; simp, rfl⟩
      | false =>
        have Hr := hide (any_next hkl HR.out hx)
        clear hx hxx hkl HR
        go_wp2
        exact ⟨⟨k + 1, by omega, by go_num, by show Hid _; exact hide Hr.out, trivial⟩, by simp [intOf]; omega⟩
    · obtain rfl : k = N := by omega
      have Hr := hide (show l.any id = false by have := HR.out; rwa [HN.out, List.take_length] at this)
      clear HR
      go_wp2
      go_ret
      exact ⟨_, rfl, by rw [Hr.out]; rfl, rfl⟩
set_option maxRecDepth 100000 in
set_option maxHeartbeats 2000000 in
theorem contains_any (l : List Bool) (b o c : Nat) (w : World) (hc : ∀ j x, l[j]? = some x → w.cell? ⟨b, o + j, none⟩ = some (.bool x)) (hl : l.length ≤ c) (hn : l.length ≤ 1000) :
    Calls Tryz.prog 55 #[.slice (some ⟨b, o, none⟩) l.length c, .bool true] w fun y w' => y = .returned (.bool (l.any id)) ∧ w' = w := by
  have HI := hide (index_any l b o c w hc hl hn)
  obtain ⟨N, hN⟩ : ∃ N, N = l.length := ⟨_, rfl⟩
  rw [← hN] at HI ⊢
  clear hc hl hn hN
  go_enter Tryz.func55, Tryz.ntmps55
  go_wp2_with fail
  refine HI.out.mono ?_
  rintro y w1 ⟨i, rfl, hi, rfl⟩
  have Hi := hide hi
  clear hi HI
  go_wp2
  go_ret
  exact ⟨by rw [← Hi.out]; rfl, rfl⟩
set_option maxRecDepth 100000 in
set_option maxHeartbeats 2000000 in
theorem wrong_any (l : List Bool) (b o c : Nat) (w : World) (hc : ∀ j x, l[j]? = some x → w.cell? ⟨b, o + j, none⟩ = some (.bool x)) (hl : l.length ≤ c) (hn : l.length ≤ 1000) :
    Calls Tryz.prog 32 #[.slice (some ⟨b, o, none⟩) l.length c] w fun y w' => y = .returned (.bool (l.any id)) ∧ w' = w := by
  have HI := hide (contains_any l b o c w hc hl hn)
  obtain ⟨N, hN⟩ : ∃ N, N = l.length := ⟨_, rfl⟩
  rw [← hN] at HI ⊢
  clear hc hl hn hN
  go_enter Tryz.func32, Tryz.ntmps32
  go_wp2_with fail
  refine HI.out.mono ?_
  rintro y w1 ⟨rfl, rfl⟩
  clear HI
  go_wp2
  go_ret
  exact ⟨rfl, rfl⟩
theorem cells_bool (l : List Bool) (w : World) : ∀ j x, l[j]? = some x → (w.alloc (.cells (l.map Value.bool).toArray tB)).cell? ⟨w.heap.size, 0 + j, none⟩ = some (.bool x) := fun j x hj => by
  rw [Nat.zero_add, (Row.fresh w tB (l.map Value.bool).toArray).cell]
  simp [hj]
theorem wrong2_any (a b : Bool) (w : World) : Calls Tryz.prog 32 #[.slice (some ⟨w.heap.size, 0, none⟩) 2 2] (w.alloc (.cells #[.bool a, .bool b] tB)) fun y w' => y = .returned (.bool (a || b)) ∧ Below w.heap.size w w' := by
  refine (wrong_any [a, b] w.heap.size 0 2 _ (cells_bool [a, b] w) (by simp) (by simp)).mono ?_
  rintro y w1 ⟨rfl, rfl⟩
  exact ⟨by simp, (Below.refl _ w).alloc (Nat.le_refl _) _⟩
theorem wrong4_any (a b c d : Bool) (w : World) : Calls Tryz.prog 32 #[.slice (some ⟨w.heap.size, 0, none⟩) 4 4] (w.alloc (.cells #[.bool a, .bool b, .bool c, .bool d] tB)) fun y w' => y = .returned (.bool (a || b || c || d)) ∧ Below w.heap.size w w' := by
  refine (wrong_any [a, b, c, d] w.heap.size 0 4 _ (cells_bool [a, b, c, d] w) (by simp) (by simp)).mono ?_
  rintro y w1 ⟨rfl, rfl⟩
  exact ⟨by simp [Bool.or_assoc], (Below.refl _ w).alloc (Nat.le_refl _) _⟩
theorem wrong6_any (a b c d e f : Bool) (w : World) : Calls Tryz.prog 32 #[.slice (some ⟨w.heap.size, 0, none⟩) 6 6] (w.alloc (.cells #[.bool a, .bool b, .bool c, .bool d, .bool e, .bool f] tB)) fun y w' => y = .returned (.bool (a || b || c || d || e || f)) ∧ Below w.heap.size w w' := by
  refine (wrong_any [a, b, c, d, e, f] w.heap.size 0 6 _ (cells_bool [a, b, c, d, e, f] w) (by simp) (by simp)).mono ?_
  rintro y w1 ⟨rfl, rfl⟩
  exact ⟨by simp [Bool.or_assoc], (Below.refl _ w).alloc (Nat.le_refl _) _⟩
end Go.Proofs.YtahcokfoifdlmaaGreatDoor.Tr
namespace Go.Proofs.YtahcokfoifdlmaaGreatDoor.Tr
open Go Go.RowKit Kt Lw Li Lx Df

def aheadI (l : List Bs) (k : Nat) : Option Bs := if k = 0 then none else l[k - 1]?
theorem igo_step {l : List Bs} {k : Nat} (hk : k < l.length) : igo (aheadI l k) (l.drop k) = (decide ((l.getD k []).length = 32) && above (aheadI l k) (l.getD k []) && igo (aheadI l (k + 1)) (l.drop (k + 1))) := by
  have hx := List.getElem?_eq_getElem hk
  have hd := List.drop_eq_getElem_cons hk
  have e : l.getD k [] = l[k] := by rw [List.getD_eq_getElem?_getD, hx]; rfl
  rw [hd, e, igo]
  unfold aheadI
  rw [if_neg (show ¬ k + 1 = 0 by omega), Nat.add_sub_cancel, hx]
theorem lt_nil_of {q : Bs} (h : q.length = 32) : lt [] q = true := by
  cases q with
  | nil => simp at h
  | cons c r => rfl
set_option maxRecDepth 100000 in
set_option maxHeartbeats 4000000 in
theorem rising_any (l : List Bs) (A : Option Addr) (c : Nat) (P : Nat → Prop) (w : World) (hs : Vs w P A c (texts l)) (hm : ∀ q ∈ l, q.length ≤ 9223372036854775807) (hn : l.length ≤ 9223372036854775807) :
    Calls Tryz.prog 45 #[.slice A l.length c] w fun y w' => y = .returned (.bool (igo none l)) ∧ Below w.heap.size w w' := by
  have Hs := hide hs.bound
  have Hm := hide hm
  obtain ⟨N, hN⟩ : ∃ N, N = l.length := ⟨_, rfl⟩
  rw [← hN] at hn ⊢
  have HN := hide hN
  clear hs hm hN
  go_enter Tryz.func45, Tryz.ntmps45
  go_wp2
  go_loopw [3, 8] (fun s i wr => ∃ (k : Nat) (p0 : Bs), k ≤ N ∧ i = .int .i64 k ∧ s = .string ⟨p0.toArray⟩ ∧ Hid (igo none l = igo (aheadI l k) (l.drop k) ∧ ∀ q, q.length = 32 → above (aheadI l k) q = lt p0 q) ∧ Below w.heap.size w wr) (fun _ i _ => N - (intOf i).toNat)
  case atStart => exact ⟨0, [], Nat.zero_le _, rfl, rfl, by show Hid _; exact hide ⟨rfl, fun q hq => (lt_nil_of hq).symm⟩, Below.refl _ _⟩
  case round =>
    obtain ⟨k, p0, hk, rfl, rfl, HR, hb⟩ := hrel
    have Hb := hide hb
    clear hb
    by_cases hlt : k < N
    · have hkl : k < l.length := by rw [← HN.out]; exact hlt
      obtain ⟨b, o, rfl, ck⟩ := Hs.out.text Hb.out (k := k) hkl
      have hstep := igo_step hkl
      rw [← HR.out.1] at hstep
      have Hab := hide (HR.out.2 (l.getD k []))
      have Hnx := hide (show ∀ q, above (aheadI l (k + 1)) q = lt (l.getD k []) q from fun q => by
        unfold aheadI; rw [if_neg (by omega), Nat.add_sub_cancel, List.getElem?_eq_getElem hkl, List.getD_eq_getElem?_getD, List.getElem?_eq_getElem hkl]; rfl)
      have hqm := Hm.out (l.getD k []) (by rw [List.getD_eq_getElem?_getD, List.getElem?_eq_getElem hkl]; exact List.getElem_mem hkl)
      generalize l.getD k [] = q at *
      have HbA := hide (fun (wz : World) (h : Below wr.heap.size wr wz) => Hb.out.trans (h.mono Hb.out.size))
      have hle : (Op.bytesLess q p0 || q == p0) = !lt p0 q := leq_eq q p0
      by_cases h32 : q.length = 32
      · have hne : ((q.length : Int) != 32) = false := by rw [bne_eq_false_iff_eq]; omega
        rw [decide_eq_true h32, Bool.true_and, Hab.out h32] at hstep
        cases hl : lt p0 q with
        | true =>
          rw [hl, Bool.true_and] at hstep
          rw [hl, Bool.not_true] at hle
          have Hstep := hide hstep
          clear hstep h32 hl hkl HR Hab
          go_wp2_with fail
          refine (wrong2_any _ _ wr).mono ?_
          rintro y w2 ⟨rfl, hb2⟩
          have Hb2 := hide (HbA.out w2 hb2)
          clear hb2 hle ck
          go_wp2
          exact ⟨⟨k + 1, q, by omega, by go_num, rfl, by show Hid _; exact hide ⟨Hstep.out, fun r _ => Hnx.out r⟩, Hb2.out⟩, by simp [intOf]; omega⟩
        | false =>
          rw [hl, Bool.false_and] at hstep
          rw [hl, Bool.not_false] at hle
          have Hstep := hide hstep
          clear hstep h32 hl hkl HR Hab
          go_wp2_with fail
          refine (wrong2_any _ _ wr).mono ?_
          rintro y w2 ⟨rfl, hb2⟩
          have Hb2 := hide (HbA.out w2 hb2)
          clear hb2 hle ck
          go_wp2
          go_ret
          exact ⟨by rw [Hstep.out]; rfl, Hb2.out⟩
      · have hne : ((q.length : Int) != 32) = true := by rw [bne_iff_ne]; omega
        rw [decide_eq_false h32, Bool.false_and, Bool.false_and] at hstep
        have Hstep := hide hstep
        generalize (!lt p0 q) = z at hle
        clear hstep h32 hkl HR Hab
        go_wp2_with fail
        refine (wrong2_any _ _ wr).mono ?_
        rintro y w2 ⟨rfl, hb2⟩
        have Hb2 := hide (HbA.out w2 hb2)
        clear hb2 hle ck
        go_wp2
        go_ret
        exact ⟨by rw [Hstep.out]; rfl, Hb2.out⟩
    · obtain rfl : k = N := by omega
      have Hr := hide (show igo none l = true by rw [HR.out.1, HN.out, List.drop_length]; rfl)
      clear HR
      go_wp2
      go_ret
      exact ⟨by rw [Hr.out]; rfl, Hb.out⟩
end Go.Proofs.YtahcokfoifdlmaaGreatDoor.Tr
namespace Go.Proofs.YtahcokfoifdlmaaGreatDoor.Tr
open Go Go.RowKit Kt Lw Li Lx Df

def aheadC (l : List Ch) (k : Nat) : Option Bs := if k = 0 then none else (l[k - 1]?).map (·.path)
theorem cgo_step {l : List Ch} {k : Nat} {f : Ch} (h : l[k]? = some f) (hd : l.drop k = f :: l.drop (k + 1)) :
    cgo (aheadC l k) (l.drop k) = (can f.path && decide (f.text.length ≤ 65536) && (!f.gone || decide (f.text = [])) && above (aheadC l k) f.path && cgo (aheadC l (k + 1)) (l.drop (k + 1))) := by
  rw [hd, cgo]
  unfold aheadC
  rw [if_neg (show ¬ k + 1 = 0 by omega), Nat.add_sub_cancel, h]
  rfl
theorem four_no {a b c d X : Bool} (h : (!a || b || c || d) = true) : (a && !c && !d && (a && !b) && X) = false := by
  cases a <;> cases b <;> cases c <;> cases d <;> simp_all
theorem four_yes {a b c d X : Bool} (h : (!a || b || c || d) = false) : (a && !c && !d && (a && !b) && X) = X := by
  cases a <;> cases b <;> cases c <;> cases d <;> simp_all
set_option maxRecDepth 100000 in
set_option maxHeartbeats 4000000 in
theorem possible_any (l : List Ch) (A : Option Addr) (c : Nat) (w : World) (hs : Chs w A c l) (hE : Most w) (hm : ∀ f ∈ l, f.path.length ≤ 9223372036854775807 ∧ f.text.length ≤ 9223372036854775807) (hn : l.length ≤ 9223372036854775807) :
    Calls Tryz.prog 46 #[.slice A l.length c] w fun y w' => y = .returned (.bool (cgo none l)) ∧ Below w.heap.size w w' := by
  have Hs := hide hs
  have Hm := hide hm
  have HE := hide hE
  obtain ⟨N, hN⟩ : ∃ N, N = l.length := ⟨_, rfl⟩
  rw [← hN] at hn ⊢
  have HN := hide hN
  clear hs hm hE hN
  go_enter Tryz.func46, Tryz.ntmps46
  go_wp2
  go_loopw [3, 8] (fun s i wr => ∃ (k : Nat) (p0 : Bs), k ≤ N ∧ i = .int .i64 k ∧ s = .string ⟨p0.toArray⟩ ∧ Hid (cgo none l = cgo (aheadC l k) (l.drop k) ∧ ∀ q, can q = true → above (aheadC l k) q = lt p0 q) ∧ Below w.heap.size w wr) (fun _ i _ => N - (intOf i).toNat)
  case atStart => exact ⟨0, [], Nat.zero_le _, rfl, rfl, by show Hid _; exact hide ⟨rfl, fun q hq => (can_lt hq).1.symm⟩, Below.refl _ _⟩
  case round =>
    obtain ⟨k, p0, hk, rfl, rfl, HR, hb⟩ := hrel
    have Hb := hide hb
    clear hb
    by_cases hlt : k < N
    · obtain ⟨b, o, f, rfl, hbl, hf, hd, d0, dm, d1⟩ := Hs.out.at (w' := wr) Hb.out (k := k) (by have := HN.out; omega)
      have hstep := cgo_step hf hd
      rw [← HR.out.1] at hstep
      have HP := hide (fun w (hE : Most w) => path_any f.path w hE (Hm.out f (List.mem_of_getElem? hf)).1)
      have Hab := hide (HR.out.2 f.path)
      have Hnx := hide (show ∀ q, above (aheadC l (k + 1)) q = lt f.path q from fun q => by unfold aheadC; rw [if_neg (by omega), Nat.add_sub_cancel, hf]; rfl)
      have hxl := (Hm.out f (List.mem_of_getElem? hf)).2
      obtain ⟨p, gb, x⟩ := f
      simp only at hstep HP Hab Hnx d0 dm d1 hxl
      have hrow := Row.fresh wr tC #[.string ⟨p.toArray⟩, .bool gb, .string ⟨x.toArray⟩]
      have hb1 := Hb.out.alloc Hb.out.size (.cells #[.string ⟨p.toArray⟩, .bool gb, .string ⟨x.toArray⟩] tC)
      obtain ⟨w1, hw1⟩ : ∃ w1, w1 = wr.alloc (.cells #[.string ⟨p.toArray⟩, .bool gb, .string ⟨x.toArray⟩] tC) := ⟨_, rfl⟩
      obtain ⟨g, hg⟩ : ∃ g, g = wr.heap.size := ⟨_, rfl⟩
      rw [← hw1] at hrow hb1
      rw [← hg] at hrow
      have c0 : w1.drew.cell? ⟨g, 0, none⟩ = some (.string ⟨p.toArray⟩) := hrow.cell 0
      have c1 : w1.drew.cell? ⟨g, 1, none⟩ = some (.bool gb) := hrow.cell 1
      have c2 : w1.drew.cell? ⟨g, 2, none⟩ = some (.string ⟨x.toArray⟩) := hrow.cell 2
      have HE1 := hide (HE.out.keep hb1)
      have Hb1 := hide hb1
      have W1 := hide hw1
      have G1 := hide hg
      have Hrow := hide hrow
      have hle : (Op.bytesLess p p0 || p == p0) = !lt p0 p := leq_eq p p0
      obtain ⟨le, hle0⟩ : ∃ b, b = !lt p0 p := ⟨_, rfl⟩
      obtain ⟨lg, hlg0⟩ : ∃ b, b = decide (65536 < x.length) := ⟨_, rfl⟩
      obtain ⟨ne, hne0⟩ : ∃ b, b = !decide (x = []) := ⟨_, rfl⟩
      have q1 : decide (65536 < (x.length : Int)) = lg := by rw [hlg0, decide_eq_decide]; omega
      have q2 : (x == []) = !ne := by rw [hne0, Bool.not_not]; cases x <;> rfl
      have q3 : x.isEmpty = !ne := by rw [hne0, Bool.not_not]; cases x <;> rfl
      have q4 : (x != []) = ne := by rw [hne0]; cases x <;> rfl
      rw [← hle0] at hle
      have Hc := hide (show cgo none l = (can p && !lg && (!gb || !ne) && (can p && !le) && cgo (aheadC l (k + 1)) (l.drop (k + 1))) by
        rw [hstep]
        cases hc : can p with
        | false => simp
        | true =>
          rw [Hab.out hc, hlg0, hne0, hle0, Bool.not_not, Bool.true_and, Bool.not_not]
          have : decide (x.length ≤ 65536) = !decide (65536 < x.length) := by
            by_cases h : 65536 < x.length
            · rw [decide_eq_true h, decide_eq_false (show ¬ x.length ≤ 65536 by omega)]; rfl
            · rw [decide_eq_false h, decide_eq_true (show x.length ≤ 65536 by omega)]; rfl
          rw [this]; simp)
      clear hrow hb1 hw1 hg hstep hf hd hbl hle0 hne0 hxl HR Hab
      go_wp2_with fail
      rw [← W1.out, ← G1.out]
      clear hlg0 d0 dm d1
      refine Rg.wp_region_ord (fun w' => w'.cell? ⟨g, 0, none⟩ = some (.string ⟨p.toArray⟩) ∧ w'.cell? ⟨g, 1, none⟩ = some (.bool gb) ∧ w'.cell? ⟨g, 2, none⟩ = some (.string ⟨x.toArray⟩)) [(0, true), (1, true), (4, true), (5, true), (6, true), (7, true), (8, true), (9, true), (10, true), (11, true), (12, true), (13, true), (2, false), (3, true), (14, true), (15, true), (16, true), (17, true), (18, true), (19, false), (20, false)] (by kernel_rfl) (by kernel_rfl) ?_
      simp only [Rg.pick, List.map_cons, List.map_nil, List.getD_cons_zero, List.getD_cons_succ]
      iterate 12 (refine Rg.ord_quiet (v := ?_) rfl (fun w' hS => ?_) ⟨c0, c1, c2⟩ ?_; rotate_left; (obtain ⟨s0, s1, s2⟩ := hS; go_simp; with_reducible rfl); simp only [Act.put, List.setIfInBounds_toArray, List.set_cons_succ, List.set_cons_zero])
      refine Rg.ord_loud rfl (fun K hK => ?_)
      go_simp
      refine (HP.out w1.drew (HE1.out.keep (Below.refl _ w1).drew)).mono ?_
      rintro y w2 ⟨rfl, hb2⟩
      have e0 := agr c0 hb2
      have e1 := agr c1 hb2
      have e2 := agr c2 hb2
      have Hb2 := hide (Hb1.out.drew.trans (hb2.mono Hb1.out.size))
      refine hK _ _ (fun _ => ⟨e0, e1, e2⟩) ?_
      clear hK K hb2 c0 c1 c2 Hrow HP HE1
      iterate 2 (refine Rg.ord_quiet (v := ?_) rfl (fun w' hS => ?_) ⟨e0, e1, e2⟩ ?_; rotate_left; (obtain ⟨s0, s1, s2⟩ := hS; go_simp; with_reducible rfl); simp only [Act.put, List.setIfInBounds_toArray, List.set_cons_succ, List.set_cons_zero])
      cases gb with
      | false =>
        have Hc2 := hide (show cgo none l = (can p && !lg && !false && (can p && !le) && cgo (aheadC l (k + 1)) (l.drop (k + 1))) by rw [Hc.out]; rfl)
        clear Hc
        iterate 3 (refine Rg.ord_passed (by rfl) ⟨e0, e1, e2⟩ ?_; simp only [Act.put, List.setIfInBounds_toArray, List.set_cons_succ, List.set_cons_zero])
        iterate 1 (refine Rg.ord_quiet (v := ?_) rfl (fun w' hS => ?_) ⟨e0, e1, e2⟩ ?_; rotate_left; (obtain ⟨s0, s1, s2⟩ := hS; go_simp; with_reducible rfl); simp only [Act.put, List.setIfInBounds_toArray, List.set_cons_succ, List.set_cons_zero])
        refine Rg.ord_loud rfl (fun K hK => ?_)
        go_simp
        refine hK _ _ (fun _ => ⟨agr e0 ((Below.refl _ w2).alloc (Nat.le_refl _) _), agr e1 ((Below.refl _ w2).alloc (Nat.le_refl _) _), agr e2 ((Below.refl _ w2).alloc (Nat.le_refl _) _)⟩) ?_
        clear hK K
        refine Rg.ord_loud rfl (fun K hK => ?_)
        go_simp
        refine (wrong4_any _ _ _ _ w2).mono ?_
        rintro y w3 ⟨rfl, hb3⟩
        have Hb3 := hide (Hb2.out.trans (hb3.mono Hb2.out.size))
        have f0 := agr e0 hb3
        refine hK _ _ (fun _ => ⟨f0, agr e1 hb3, agr e2 hb3⟩) ?_
        clear hK K hb3 e0 e1 e2
        refine Rg.ord_nil ?_
        cases hz : (!can p || le || lg || false) with
        | true =>
          have Hr := hide (Hc2.out.trans (four_no hz))
          clear hz Hc2 q1 q2 q3 q4 hle f0
          go_wp2
          go_ret
          exact ⟨by rw [Hr.out]; rfl, Hb3.out⟩
        | false =>
          have Hr := hide (Hc2.out.trans (four_yes hz))
          clear hz Hc2 q1 q2 q3 q4 hle
          go_wp2
          exact ⟨⟨k + 1, p, by omega, by go_num, rfl, by show Hid _; exact hide ⟨Hr.out, fun r _ => Hnx.out r⟩, Hb3.out⟩, by simp [intOf]; omega⟩
      | true =>
        have Hc2 := hide (show cgo none l = (can p && !lg && !ne && (can p && !le) && cgo (aheadC l (k + 1)) (l.drop (k + 1))) by rw [Hc.out]; rfl)
        clear Hc
        iterate 3 (refine Rg.ord_guarded (v := ?_) (by rfl) (fun w' hS => ?_) ⟨e0, e1, e2⟩ ?_; rotate_left; (obtain ⟨s0, s1, s2⟩ := hS; go_simp; with_reducible rfl); simp only [Act.put, List.setIfInBounds_toArray, List.set_cons_succ, List.set_cons_zero])
        iterate 1 (refine Rg.ord_quiet (v := ?_) rfl (fun w' hS => ?_) ⟨e0, e1, e2⟩ ?_; rotate_left; (obtain ⟨s0, s1, s2⟩ := hS; go_simp; with_reducible rfl); simp only [Act.put, List.setIfInBounds_toArray, List.set_cons_succ, List.set_cons_zero])
        refine Rg.ord_loud rfl (fun K hK => ?_)
        go_simp
        refine hK _ _ (fun _ => ⟨agr e0 ((Below.refl _ w2).alloc (Nat.le_refl _) _), agr e1 ((Below.refl _ w2).alloc (Nat.le_refl _) _), agr e2 ((Below.refl _ w2).alloc (Nat.le_refl _) _)⟩) ?_
        clear hK K
        refine Rg.ord_loud rfl (fun K hK => ?_)
        go_simp
        refine (wrong4_any _ _ _ _ w2).mono ?_
        rintro y w3 ⟨rfl, hb3⟩
        have Hb3 := hide (Hb2.out.trans (hb3.mono Hb2.out.size))
        have f0 := agr e0 hb3
        refine hK _ _ (fun _ => ⟨f0, agr e1 hb3, agr e2 hb3⟩) ?_
        clear hK K hb3 e0 e1 e2
        refine Rg.ord_nil ?_
        cases hz : (!can p || le || lg || ne) with
        | true =>
          have Hr := hide (Hc2.out.trans (four_no hz))
          clear hz Hc2 q1 q2 q3 q4 hle f0
          go_wp2
          go_ret
          exact ⟨by rw [Hr.out]; rfl, Hb3.out⟩
        | false =>
          have Hr := hide (Hc2.out.trans (four_yes hz))
          clear hz Hc2 q1 q2 q3 q4 hle
          go_wp2
          exact ⟨⟨k + 1, p, by omega, by go_num, rfl, by show Hid _; exact hide ⟨Hr.out, fun r _ => Hnx.out r⟩, Hb3.out⟩, by simp [intOf]; omega⟩
    · obtain rfl : k = N := by omega
      have Hr := hide (show cgo none l = true by rw [HR.out.1, HN.out, List.drop_length]; rfl)
      clear HR
      go_wp2
      go_ret
      exact ⟨by rw [Hr.out]; rfl, Hb.out⟩
end Go.Proofs.YtahcokfoifdlmaaGreatDoor.Tr
namespace Go.Proofs.YtahcokfoifdlmaaGreatDoor.Tr
open Go Go.RowKit Kt Lw Li Lx Df

def withinB (p : Pch) : Bool := decide (p.ids.length ≤ 16) && decide (p.author.length ≤ 100) && decide (p.note.length ≤ 1000) && decide (p.chs.length ≤ 100) && igo none p.ids && cgo none p.chs
theorem pright_within (p : Pch) : pright p = (withinB p && decide ((pform p).length ≤ 131072)) := rfl
theorem not_gt (n k : Nat) : decide ((k : Int) < (n : Int)) = !decide (n ≤ k) := by
  by_cases h : n ≤ k
  · rw [decide_eq_true h, decide_eq_false (by omega)]; rfl
  · rw [decide_eq_false h, decide_eq_true (by omega)]; rfl
theorem not_gt' (n k : Nat) : decide (k < n) = !decide (n ≤ k) := by
  by_cases h : n ≤ k
  · rw [decide_eq_true h, decide_eq_false (by omega)]; rfl
  · rw [decide_eq_false h, decide_eq_true (by omega)]; rfl
theorem six_is (a b c d e f : Bool) : (!(!a || !b || !c || !d || !e || !f)) = (a && c && d && e && b && f) := by
  cases a <;> cases b <;> cases c <;> cases d <;> cases e <;> cases f <;> rfl
abbrev tP : TypeId := 30
set_option maxRecDepth 100000 in
set_option maxHeartbeats 4000000 in
theorem within_any (p : Pch) (Ai Ac : Option Addr) (ci cc : Nat) (P : Nat → Prop) (w : World) (h1 : Vs w P Ai ci (texts p.ids)) (h2 : Chs w Ac cc p.chs) (hE : Most w)
    (hi : ∀ q ∈ p.ids, q.length ≤ 9223372036854775807) (hc : ∀ f ∈ p.chs, f.path.length ≤ 9223372036854775807 ∧ f.text.length ≤ 9223372036854775807)
    (l1 : p.ids.length ≤ 9223372036854775807) (l2 : p.author.length ≤ 9223372036854775807) (l3 : p.note.length ≤ 9223372036854775807) (l4 : p.chs.length ≤ 9223372036854775807) :
    Calls Tryz.prog 27 #[PchV p Ai Ac ci cc] w fun y w' => y = .returned (.bool (withinB p)) ∧ Below w.heap.size w w' := by
  obtain ⟨ids, a, o, chs⟩ := p
  simp only at h1 h2 hi hc l1 l2 l3 l4
  have HR := hide (fun (wz : World) (h : Below w.heap.size w wz) => rising_any ids Ai ci P wz (Lw.Vs.below h1 h) hi l1)
  have HP := hide (fun (wz : World) (h : Below w.heap.size w wz) => possible_any chs Ac cc wz (h2.keep h) (hE.keep h) hc l4)
  unfold PchV withinB
  simp only
  obtain ⟨N, hN⟩ : ∃ n, n = ids.length := ⟨_, rfl⟩
  obtain ⟨M, hM⟩ : ∃ n, n = chs.length := ⟨_, rfl⟩
  rw [← hN] at HR l1 ⊢
  rw [← hM] at HP l4 ⊢
  obtain ⟨g, hg⟩ : ∃ g, g = w.heap.size := ⟨_, rfl⟩
  obtain ⟨w1, hw1⟩ : ∃ w1, w1 = w.alloc (.cells #[.slice Ai N ci, .string ⟨a.toArray⟩, .string ⟨o.toArray⟩, .slice Ac M cc] tP) := ⟨_, rfl⟩
  have hrow := Row.fresh w tP #[.slice Ai N ci, .string ⟨a.toArray⟩, .string ⟨o.toArray⟩, .slice Ac M cc]
  have hb1 : Below w.heap.size w w1 := by rw [hw1]; exact (Below.refl _ w).alloc (Nat.le_refl _) _
  rw [← hw1, ← hg] at hrow
  have c0 : w1.drew.cell? ⟨g, 0, none⟩ = some (.slice Ai N ci) := hrow.cell 0
  have c1 : w1.drew.cell? ⟨g, 1, none⟩ = some (.string ⟨a.toArray⟩) := hrow.cell 1
  have c2 : w1.drew.cell? ⟨g, 2, none⟩ = some (.string ⟨o.toArray⟩) := hrow.cell 2
  have c3 : w1.drew.cell? ⟨g, 3, none⟩ = some (.slice Ac M cc) := hrow.cell 3
  have q1 := not_gt N 16
  have q2 := not_gt a.length 100
  have q3 := not_gt o.length 1000
  have q4 := not_gt M 100
  have q5 := not_gt' N 16
  have q6 := not_gt' a.length 100
  have q7 := not_gt' o.length 1000
  have q8 := not_gt' M 100
  simp only [Int.cast_ofNat_Int] at q1 q2 q3 q4
  have W1 := hide hw1
  have G1 := hide hg
  have Hb1 := hide hb1.drew
  obtain ⟨b1, e1⟩ : ∃ b, b = decide (N ≤ 16) := ⟨_, rfl⟩
  obtain ⟨b2, e2⟩ : ∃ b, b = decide (a.length ≤ 100) := ⟨_, rfl⟩
  obtain ⟨b3, e3⟩ : ∃ b, b = decide (o.length ≤ 1000) := ⟨_, rfl⟩
  obtain ⟨b4, e4⟩ : ∃ b, b = decide (M ≤ 100) := ⟨_, rfl⟩
  rw [← e1] at q1 q5 ⊢
  rw [← e2] at q2 q6 ⊢
  rw [← e3] at q3 q7 ⊢
  rw [← e4] at q4 q8 ⊢
  clear hrow hw1 hg hb1 h1 h2 hE hi hc hN hM e1 e2 e3 e4
  go_enter Tryz.func27, Tryz.ntmps27
  go_wp2_with (first | rw [← W1.out, ← G1.out] | fail)
  refine Rg.wp_region_ord (fun w' => w'.cell? ⟨g, 0, none⟩ = some (.slice Ai N ci) ∧ w'.cell? ⟨g, 1, none⟩ = some (.string ⟨a.toArray⟩) ∧ w'.cell? ⟨g, 2, none⟩ = some (.string ⟨o.toArray⟩) ∧ w'.cell? ⟨g, 3, none⟩ = some (.slice Ac M cc)) [(0, true), (1, true), (2, true), (3, true), (4, true), (5, true), (8, true), (9, true), (10, true), (11, true), (12, true), (13, true), (14, true), (15, true), (16, true), (17, true), (18, true), (19, true), (20, true), (21, true), (6, false), (7, true), (22, false), (23, true), (24, false), (25, false), (26, true), (27, true)] (by kernel_rfl) (by kernel_rfl) ?_
  simp only [Rg.pick, List.map_cons, List.map_nil, List.getD_cons_zero, List.getD_cons_succ]
  iterate 20 (refine Rg.ord_quiet (v := ?_) rfl (fun w' hS => ?_) ⟨c0, c1, c2, c3⟩ ?_; rotate_left; (obtain ⟨s0, s1, s2, s3⟩ := hS; go_simp; with_reducible rfl); simp only [Act.put, List.setIfInBounds_toArray, List.set_cons_succ, List.set_cons_zero])
  refine Rg.ord_loud rfl (fun K hK => ?_)
  go_simp
  refine (HR.out w1.drew Hb1.out).mono ?_
  rintro y w2 ⟨rfl, hb2⟩
  have d0 := agr c0 hb2
  have d1 := agr c1 hb2
  have d2 := agr c2 hb2
  have d3 := agr c3 hb2
  have Hb2 := hide (Hb1.out.trans (hb2.mono Hb1.out.size))
  refine hK _ _ (fun _ => ⟨d0, d1, d2, d3⟩) ?_
  clear hK K hb2 c0 c1 c2 c3 HR Hb1
  iterate 1 (refine Rg.ord_quiet (v := ?_) rfl (fun w' hS => ?_) ⟨d0, d1, d2, d3⟩ ?_; rotate_left; (obtain ⟨s0, s1, s2, s3⟩ := hS; go_simp; with_reducible rfl); simp only [Act.put, List.setIfInBounds_toArray, List.set_cons_succ, List.set_cons_zero])
  refine Rg.ord_loud rfl (fun K hK => ?_)
  go_simp
  refine (HP.out w2 Hb2.out).mono ?_
  rintro y w3 ⟨rfl, hb3⟩
  have c0 := agr d0 hb3
  have c1 := agr d1 hb3
  have c2 := agr d2 hb3
  have c3 := agr d3 hb3
  have Hb3 := hide (Hb2.out.trans (hb3.mono Hb2.out.size))
  refine hK _ _ (fun _ => ⟨c0, c1, c2, c3⟩) ?_
  clear hK K hb3 d0 d1 d2 d3 HP Hb2
  iterate 1 (refine Rg.ord_quiet (v := ?_) rfl (fun w' hS => ?_) ⟨c0, c1, c2, c3⟩ ?_; rotate_left; (obtain ⟨s0, s1, s2, s3⟩ := hS; go_simp; with_reducible rfl); simp only [Act.put, List.setIfInBounds_toArray, List.set_cons_succ, List.set_cons_zero])
  refine Rg.ord_loud rfl (fun K hK => ?_)
  go_simp
  refine hK _ _ (fun _ => ⟨agr c0 ((Below.refl _ w3).alloc (Nat.le_refl _) _), agr c1 ((Below.refl _ w3).alloc (Nat.le_refl _) _), agr c2 ((Below.refl _ w3).alloc (Nat.le_refl _) _), agr c3 ((Below.refl _ w3).alloc (Nat.le_refl _) _)⟩) ?_
  clear hK K
  refine Rg.ord_loud rfl (fun K hK => ?_)
  go_simp
  refine (wrong6_any _ _ _ _ _ _ w3).mono ?_
  rintro y w4 ⟨rfl, hb4⟩
  have d0 := agr c0 hb4
  have d1 := agr c1 hb4
  have d2 := agr c2 hb4
  have d3 := agr c3 hb4
  have Hb4 := hide (Hb3.out.trans (hb4.mono Hb3.out.size))
  refine hK _ _ (fun _ => ⟨d0, d1, d2, d3⟩) ?_
  clear hK K hb4 c0 c1 c2 c3 Hb3
  iterate 2 (refine Rg.ord_quiet (v := ?_) rfl (fun w' hS => ?_) ⟨d0, d1, d2, d3⟩ ?_; rotate_left; (obtain ⟨s0, s1, s2, s3⟩ := hS; go_simp; with_reducible rfl); simp only [Act.put, List.setIfInBounds_toArray, List.set_cons_succ, List.set_cons_zero])
  refine Rg.ord_nil ?_
  clear d0 d1 d2 d3
  have Hz := hide (six_is b1 (igo none ids) b2 b3 b4 (cgo none chs))
  go_wp2
  go_ret
  exact ⟨by rw [← Hz.out]; simp [*], Hb4.out⟩
end Go.Proofs.YtahcokfoifdlmaaGreatDoor.Tr
