/-
  patches: of some conditions, does one hold?
-/
import Derived.BigQuiet
import Derived.Test.YtabgkfkjnpcbkaaDoorQPF
import Derived.Test.YtabgkfkjnpcbkaaDoorTR
import Derived.Test.YtabgkfkjnpcbkaaDoorQTX
import Derived.Test.YtabgkfkjnpcbkaaDoorQPB
import Derived.Test.YtabgkfkjnpcbkaaDoorPK
namespace Go.Proofs.YtabgkfkjnpcbkaaDoor.Tr
open Go Go.RowKit Kt Lw Li Lx Df

theorem leq_eq (p q : Bs) : (Op.bytesLess p q || p == q) = !lt q p := by
  rcases lt_tri p q with h | h | h
  · rw [lt_asymm h, show Op.bytesLess p q = true from h]; rfl
  · subst h; rw [lt_irr]; simp
  · rw [h, show Op.bytesLess p q = false from lt_asymm h, show (p == q) = false by rw [beq_eq_false_iff_ne]; exact (lt_ne h).symm]; rfl
abbrev tB : TypeId := 4
theorem any_next {l : List Bool} {k : Nat} (_hk : k < l.length) (h0 : (l.take k).any id = false) (hx : l[k]? = some false) : (l.take (k + 1)).any id = false := by
  rw [List.take_add_one, hx, List.any_append, h0]
  rfl
theorem any_yes {l : List Bool} {k : Nat} (hx : l[k]? = some true) : l.any id = true := by
  rw [List.any_eq_true]
  exact ⟨true, List.mem_of_getElem? hx, rfl⟩
set_option maxRecDepth 100000 in
set_option maxHeartbeats 2000000 in
theorem index_any (l : List Bool) (b o c : Nat) (w : World) (hc : ∀ j x, l[j]? = some x → w.cell? ⟨b, o + j, none⟩ = some (.bool x)) (hl : l.length ≤ c) (hn : l.length ≤ 1000) :
    Calls Tryd.prog 85 #[.slice (some ⟨b, o, none⟩) l.length c, .bool true] w fun y w' => ∃ i : Int, y = .returned (.int .i64 i) ∧ decide (0 ≤ i) = l.any id ∧ w' = w := by
  have HC := hide hc
  obtain ⟨N, hN⟩ : ∃ N, N = l.length := ⟨_, rfl⟩
  rw [← hN] at hl hn ⊢
  have HN := hide hN
  clear hc hN
  go_enter Tryd.func85, Tryd.ntmps85
  go_wp2
  go_loopw [8] (fun i wr => ∃ k : Nat, k ≤ N ∧ i = .int .i64 k ∧ Hid ((l.take k).any id = false) ∧ w = wr) (fun i _ => N - (intOf i).toNat)
  case atStart => exact ⟨0, Nat.zero_le _, rfl, by show Hid _; exact hide (by simp), rfl⟩
  case round =>
    obtain ⟨k, hk, rfl, HR, rfl⟩ := hrel
    by_cases hlt : k < N
    · have hkl : k < l.length := by rw [← HN.out]; exact hlt
      have hx := List.getElem?_eq_getElem hkl
      obtain ⟨x, hxx⟩ : ∃ x, x = l[k] := ⟨_, rfl⟩
      rw [← hxx] at hx
      have ck := HC.out k x hx
      cases x with
      | true =>
        have Hr := hide (any_yes hx)
        clear hx hxx hkl
        go_wp2
        go_ret
        exact ⟨_, rfl, by rw [Hr.out]; simp, rfl⟩
      | false =>
        have Hr := hide (any_next hkl HR.out hx)
        clear hx hxx hkl HR
        go_wp2
        exact ⟨⟨k + 1, by omega, by go_num, by show Hid _; exact hide Hr.out, trivial⟩, by simp [intOf]; omega⟩
    · obtain rfl : k = N := by omega
      have Hr := hide (show l.any id = false by have := HR.out; rwa [HN.out, List.take_length] at this)
      clear HR
      go_wp2
      go_ret
      exact ⟨_, rfl, by rw [Hr.out]; rfl, rfl⟩
set_option maxRecDepth 100000 in
set_option maxHeartbeats 2000000 in
theorem contains_any (l : List Bool) (b o c : Nat) (w : World) (hc : ∀ j x, l[j]? = some x → w.cell? ⟨b, o + j, none⟩ = some (.bool x)) (hl : l.length ≤ c) (hn : l.length ≤ 1000) :
    Calls Tryd.prog 68 #[.slice (some ⟨b, o, none⟩) l.length c, .bool true] w fun y w' => y = .returned (.bool (l.any id)) ∧ w' = w := by
  have HI := hide (index_any l b o c w hc hl hn)
  obtain ⟨N, hN⟩ : ∃ N, N = l.length := ⟨_, rfl⟩
  rw [← hN] at HI ⊢
  clear hc hl hn hN
  go_enter Tryd.func68, Tryd.ntmps68
  go_wp2_with fail
  refine HI.out.mono ?_
  rintro y w1 ⟨i, rfl, hi, rfl⟩
  have Hi := hide hi
  clear hi HI
  go_wp2
  go_ret
  exact ⟨by rw [← Hi.out]; rfl, rfl⟩
set_option maxRecDepth 100000 in
set_option maxHeartbeats 2000000 in
theorem wrong_any (l : List Bool) (b o c : Nat) (w : World) (hc : ∀ j x, l[j]? = some x → w.cell? ⟨b, o + j, none⟩ = some (.bool x)) (hl : l.length ≤ c) (hn : l.length ≤ 1000) :
    Calls Tryd.prog 40 #[.slice (some ⟨b, o, none⟩) l.length c] w fun y w' => y = .returned (.bool (l.any id)) ∧ w' = w := by
  have HI := hide (contains_any l b o c w hc hl hn)
  obtain ⟨N, hN⟩ : ∃ N, N = l.length := ⟨_, rfl⟩
  rw [← hN] at HI ⊢
  clear hc hl hn hN
  go_enter Tryd.func40, Tryd.ntmps40
  go_wp2_with fail
  refine HI.out.mono ?_
  rintro y w1 ⟨rfl, rfl⟩
  clear HI
  go_wp2
  go_ret
  exact ⟨rfl, rfl⟩
theorem cells_bool (l : List Bool) (w : World) : ∀ j x, l[j]? = some x → (w.alloc (.cells (l.map Value.bool).toArray tB)).cell? ⟨w.heap.size, 0 + j, none⟩ = some (.bool x) := fun j x hj => by
  rw [Nat.zero_add, (Row.fresh w tB (l.map Value.bool).toArray).cell]
  simp [hj]
theorem wrong2_any (a b : Bool) (w : World) : Calls Tryd.prog 40 #[.slice (some ⟨w.heap.size, 0, none⟩) 2 2] (w.alloc (.cells #[.bool a, .bool b] tB)) fun y w' => y = .returned (.bool (a || b)) ∧ Below w.heap.size w w' := by
  refine (wrong_any [a, b] w.heap.size 0 2 _ (cells_bool [a, b] w) (by simp) (by simp)).mono ?_
  rintro y w1 ⟨rfl, rfl⟩
  exact ⟨by simp, (Below.refl _ w).alloc (Nat.le_refl _) _⟩
theorem wrong4_any (a b c d : Bool) (w : World) : Calls Tryd.prog 40 #[.slice (some ⟨w.heap.size, 0, none⟩) 4 4] (w.alloc (.cells #[.bool a, .bool b, .bool c, .bool d] tB)) fun y w' => y = .returned (.bool (a || b || c || d)) ∧ Below w.heap.size w w' := by
  refine (wrong_any [a, b, c, d] w.heap.size 0 4 _ (cells_bool [a, b, c, d] w) (by simp) (by simp)).mono ?_
  rintro y w1 ⟨rfl, rfl⟩
  exact ⟨by simp [Bool.or_assoc], (Below.refl _ w).alloc (Nat.le_refl _) _⟩
theorem wrong6_any (a b c d e f : Bool) (w : World) : Calls Tryd.prog 40 #[.slice (some ⟨w.heap.size, 0, none⟩) 6 6] (w.alloc (.cells #[.bool a, .bool b, .bool c, .bool d, .bool e, .bool f] tB)) fun y w' => y = .returned (.bool (a || b || c || d || e || f)) ∧ Below w.heap.size w w' := by
  refine (wrong_any [a, b, c, d, e, f] w.heap.size 0 6 _ (cells_bool [a, b, c, d, e, f] w) (by simp) (by simp)).mono ?_
  rintro y w1 ⟨rfl, rfl⟩
  exact ⟨by simp [Bool.or_assoc], (Below.refl _ w).alloc (Nat.le_refl _) _⟩
end Go.Proofs.YtabgkfkjnpcbkaaDoor.Tr
namespace Go.Proofs.YtabgkfkjnpcbkaaDoor.Tr
open Go Go.RowKit Kt Lw Li Lx Df

def aheadI (l : List Bs) (k : Nat) : Option Bs := if k = 0 then none else l[k - 1]?
theorem igo_step {l : List Bs} {k : Nat} (hk : k < l.length) : igo (aheadI l k) (l.drop k) = (decide ((l.getD k []).length = 32) && above (aheadI l k) (l.getD k []) && igo (aheadI l (k + 1)) (l.drop (k + 1))) := by
  have hx := List.getElem?_eq_getElem hk
  have hd := List.drop_eq_getElem_cons hk
  have e : l.getD k [] = l[k] := by rw [List.getD_eq_getElem?_getD, hx]; rfl
  rw [hd, e, igo]
  unfold aheadI
  rw [if_neg (show ¬ k + 1 = 0 by omega), Nat.add_sub_cancel, hx]
theorem run_leqI (p q : Bs) (w : World) : (binOp .leq 33 (.string ⟨p.toArray⟩) (.string ⟨q.toArray⟩)).run Tryd.prog w = .ok (.bool (!lt q p)) w := run_leq p q w
theorem lt_nil_of {q : Bs} (h : q.length = 32) : lt [] q = true := by
  cases q with
  | nil => simp at h
  | cons c r => rfl
set_option maxRecDepth 100000 in
set_option maxHeartbeats 4000000 in
theorem rising_any (l : List Bs) (A : Option Addr) (c : Nat) (P : Nat → Prop) (w : World) (hs : Vs w P A c (texts l)) (hm : ∀ q ∈ l, q.length ≤ 9223372036854775807) (hn : l.length ≤ 9223372036854775807) :
    Calls Tryd.prog 55 #[.slice A l.length c] w fun y w' => y = .returned (.bool (igo none l)) ∧ Below w.heap.size w w' := by
  have Hs := hide hs.bound
  have Hm := hide hm
  obtain ⟨N, hN⟩ : ∃ N, N = l.length := ⟨_, rfl⟩
  rw [← hN] at hn ⊢
  have HN := hide hN
  clear hs hm hN
  go_enter Tryd.func55, Tryd.ntmps55
  go_wp2
  go_loopw [3, 8] (fun s i wr => ∃ (k : Nat) (p0 : Bs), k ≤ N ∧ i = .int .i64 k ∧ s = .string ⟨p0.toArray⟩ ∧ Hid (igo none l = igo (aheadI l k) (l.drop k) ∧ ∀ q, q.length = 32 → above (aheadI l k) q = lt p0 q) ∧ Below w.heap.size w wr) (fun _ i _ => N - (intOf i).toNat)
  case atStart => exact ⟨0, [], Nat.zero_le _, rfl, rfl, by show Hid _; exact hide ⟨rfl, fun q hq => (lt_nil_of hq).symm⟩, Below.refl _ _⟩
  case round =>
    obtain ⟨k, p0, hk, rfl, rfl, HR, hb⟩ := hrel
    have Hb := hide hb
    clear hb
    by_cases hlt : k < N
    · have hkl : k < l.length := by rw [← HN.out]; exact hlt
      obtain ⟨b, o, rfl, ck⟩ := Hs.out.text Hb.out (k := k) hkl
      have hstep := igo_step hkl
      rw [← HR.out.1] at hstep
      have Hab := hide (HR.out.2 (l.getD k []))
      have Hnx := hide (show ∀ q, above (aheadI l (k + 1)) q = lt (l.getD k []) q from fun q => by
        unfold aheadI; rw [if_neg (by omega), Nat.add_sub_cancel, List.getElem?_eq_getElem hkl, List.getD_eq_getElem?_getD, List.getElem?_eq_getElem hkl]; rfl)
      have hqm := Hm.out (l.getD k []) (by rw [List.getD_eq_getElem?_getD, List.getElem?_eq_getElem hkl]; exact List.getElem_mem hkl)
      generalize l.getD k [] = q at *
      have HbA := hide (fun (wz : World) (h : Below wr.heap.size wr wz) => Hb.out.trans (h.mono Hb.out.size))
      have hle : (Op.bytesLess q p0 || q == p0) = !lt p0 q := leq_eq q p0
      by_cases h32 : q.length = 32
      · have hne : ((q.length : Int) != 32) = false := by rw [bne_eq_false_iff_eq]; omega
        rw [decide_eq_true h32, Bool.true_and, Hab.out h32] at hstep
        cases hl : lt p0 q with
        | true =>
          rw [hl, Bool.true_and] at hstep
          rw [hl, Bool.not_true] at hle
          have Hstep := hide hstep
          clear hstep h32 hl hkl HR Hab
          go_wp2_with fail
          refine (wrong2_any _ _ wr).mono ?_
          rintro y w2 ⟨rfl, hb2⟩
          have Hb2 := hide (HbA.out w2 hb2)
          clear hb2 hle ck
          go_wp2
          exact ⟨⟨k + 1, q, by omega, by go_num, rfl, by show Hid _; exact hide ⟨Hstep.out, fun r _ => Hnx.out r⟩, Hb2.out⟩, by simp [intOf]; omega⟩
        | false =>
          rw [hl, Bool.false_and] at hstep
          rw [hl, Bool.not_false] at hle
          have Hstep := hide hstep
          clear hstep h32 hl hkl HR Hab
          go_wp2_with fail
          refine (wrong2_any _ _ wr).mono ?_
          rintro y w2 ⟨rfl, hb2⟩
          have Hb2 := hide (HbA.out w2 hb2)
          clear hb2 hle ck
          go_wp2
          go_ret
          exact ⟨by rw [Hstep.out]; rfl, Hb2.out⟩
      · have hne : ((q.length : Int) != 32) = true := by rw [bne_iff_ne]; omega
        rw [decide_eq_false h32, Bool.false_and, Bool.false_and] at hstep
        have Hstep := hide hstep
        generalize (!lt p0 q) = z at hle
        clear hstep h32 hkl HR Hab
        go_wp2_with fail
        refine (wrong2_any _ _ wr).mono ?_
        rintro y w2 ⟨rfl, hb2⟩
        have Hb2 := hide (HbA.out w2 hb2)
        clear hb2 hle ck
        go_wp2
        go_ret
        exact ⟨by rw [Hstep.out]; rfl, Hb2.out⟩
    · obtain rfl : k = N := by omega
      have Hr := hide (show igo none l = true by rw [HR.out.1, HN.out, List.drop_length]; rfl)
      clear HR
      go_wp2
      go_ret
      exact ⟨by rw [Hr.out]; rfl, Hb.out⟩
end Go.Proofs.YtabgkfkjnpcbkaaDoor.Tr
namespace Go.Proofs.YtabgkfkjnpcbkaaDoor.Tr
open Go Go.RowKit Kt Lw Li Lx Df

def aheadC (l : List Ch) (k : Nat) : Option Bs := if k = 0 then none else (l[k - 1]?).map (·.path)
theorem cgo_step {l : List Ch} {k : Nat} {f : Ch} (h : l[k]? = some f) (hd : l.drop k = f :: l.drop (k + 1)) :
    cgo (aheadC l k) (l.drop k) = (can f.path && decide (f.text.length ≤ 65536) && (!f.gone || decide (f.text = [])) && above (aheadC l k) f.path && cgo (aheadC l (k + 1)) (l.drop (k + 1))) := by
  rw [hd, cgo]
  unfold aheadC
  rw [if_neg (show ¬ k + 1 = 0 by omega), Nat.add_sub_cancel, h]
  rfl
theorem four_no {a b c d X : Bool} (h : (!a || b || c || d) = true) : (a && !c && !d && (a && !b) && X) = false := by
  cases a <;> cases b <;> cases c <;> cases d <;> simp_all
theorem four_yes {a b c d X : Bool} (h : (!a || b || c || d) = false) : (a && !c && !d && (a && !b) && X) = X := by
  cases a <;> cases b <;> cases c <;> cases d <;> simp_all
set_option maxRecDepth 100000 in
set_option maxHeartbeats 4000000 in
theorem possible_any (l : List Ch) (A : Option Addr) (c : Nat) (w : World) (hs : Chs w A c l) (hE : Most w) (hm : ∀ f ∈ l, f.path.length ≤ 9223372036854775807 ∧ f.text.length ≤ 9223372036854775807) (hn : l.length ≤ 9223372036854775807) :
    Calls Tryd.prog 56 #[.slice A l.length c] w fun y w' => y = .returned (.bool (cgo none l)) ∧ Below w.heap.size w w' := by
  have Hs := hide hs
  have Hm := hide hm
  have HE := hide hE
  obtain ⟨N, hN⟩ : ∃ N, N = l.length := ⟨_, rfl⟩
  rw [← hN] at hn ⊢
  have HN := hide hN
  clear hs hm hE hN
  go_enter Tryd.func56, Tryd.ntmps56
  go_wp2
  go_loopw [3, 8] (fun s i wr => ∃ (k : Nat) (p0 : Bs), k ≤ N ∧ i = .int .i64 k ∧ s = .string ⟨p0.toArray⟩ ∧ Hid (cgo none l = cgo (aheadC l k) (l.drop k) ∧ ∀ q, can q = true → above (aheadC l k) q = lt p0 q) ∧ Below w.heap.size w wr) (fun _ i _ => N - (intOf i).toNat)
  case atStart => exact ⟨0, [], Nat.zero_le _, rfl, rfl, by show Hid _; exact hide ⟨rfl, fun q hq => (can_lt hq).1.symm⟩, Below.refl _ _⟩
  case round =>
    obtain ⟨k, p0, hk, rfl, rfl, HR, hb⟩ := hrel
    have Hb := hide hb
    clear hb
    by_cases hlt : k < N
    · obtain ⟨b, o, f, rfl, hbl, hf, hd, d0, dm, d1⟩ := Hs.out.at (w' := wr) Hb.out (k := k) (by have := HN.out; omega)
      have hstep := cgo_step hf hd
      rw [← HR.out.1] at hstep
      have HP := hide (fun w (hE : Most w) => path_any f.path w hE (Hm.out f (List.mem_of_getElem? hf)).1)
      have Hab := hide (HR.out.2 f.path)
      have Hnx := hide (show ∀ q, above (aheadC l (k + 1)) q = lt f.path q from fun q => by unfold aheadC; rw [if_neg (by omega), Nat.add_sub_cancel, hf]; rfl)
      have hxl := (Hm.out f (List.mem_of_getElem? hf)).2
      obtain ⟨p, gb, x⟩ := f
      simp only at hstep HP Hab Hnx d0 dm d1 hxl
      have hrow := Row.fresh wr tC #[.string ⟨p.toArray⟩, .bool gb, .string ⟨x.toArray⟩]
      have hb1 := Hb.out.alloc Hb.out.size (.cells #[.string ⟨p.toArray⟩, .bool gb, .string ⟨x.toArray⟩] tC)
      obtain ⟨w1, hw1⟩ : ∃ w1, w1 = wr.alloc (.cells #[.string ⟨p.toArray⟩, .bool gb, .string ⟨x.toArray⟩] tC) := ⟨_, rfl⟩
      obtain ⟨g, hg⟩ : ∃ g, g = wr.heap.size := ⟨_, rfl⟩
      rw [← hw1] at hrow hb1
      rw [← hg] at hrow
      have c0 : w1.drew.cell? ⟨g, 0, none⟩ = some (.string ⟨p.toArray⟩) := hrow.cell 0
      have c1 : w1.drew.cell? ⟨g, 1, none⟩ = some (.bool gb) := hrow.cell 1
      have c2 : w1.drew.cell? ⟨g, 2, none⟩ = some (.string ⟨x.toArray⟩) := hrow.cell 2
      have HE1 := hide (HE.out.keep hb1)
      have Hb1 := hide hb1
      have W1 := hide hw1
      have G1 := hide hg
      have Hrow := hide hrow
      have hle : (Op.bytesLess p p0 || p == p0) = !lt p0 p := leq_eq p p0
      obtain ⟨le, hle0⟩ : ∃ b, b = !lt p0 p := ⟨_, rfl⟩
      obtain ⟨lg, hlg0⟩ : ∃ b, b = decide (65536 < x.length) := ⟨_, rfl⟩
      obtain ⟨ne, hne0⟩ : ∃ b, b = !decide (x = []) := ⟨_, rfl⟩
      have q1 : decide (65536 < (x.length : Int)) = lg := by rw [hlg0, decide_eq_decide]; omega
      have q2 : (x == []) = !ne := by rw [hne0, Bool.not_not]; cases x <;> rfl
      have q3 : x.isEmpty = !ne := by rw [hne0, Bool.not_not]; cases x <;> rfl
      have q4 : (x != []) = ne := by rw [hne0]; cases x <;> rfl
      rw [← hle0] at hle
      have Hc := hide (show cgo none l = (can p && !lg && (!gb || !ne) && (can p && !le) && cgo (aheadC l (k + 1)) (l.drop (k + 1))) by
        rw [hstep]
        cases hc : can p with
        | false => simp
        | true =>
          rw [Hab.out hc, hlg0, hne0, hle0, Bool.not_not, Bool.true_and, Bool.not_not]
          have : decide (x.length ≤ 65536) = !decide (65536 < x.length) := by
            by_cases h : 65536 < x.length
            · rw [decide_eq_true h, decide_eq_false (show ¬ x.length ≤ 65536 by omega)]; rfl
            · rw [decide_eq_false h, decide_eq_true (show x.length ≤ 65536 by omega)]; rfl
          rw [this]; simp)
      clear hrow hb1 hw1 hg hstep hf hd hbl hle0 hne0 hxl HR Hab
      go_wp2_with fail
      rw [← W1.out, ← G1.out]
      clear hlg0 d0 dm d1
      refine Rg.wp_region_ord (fun w' => w'.cell? ⟨g, 0, none⟩ = some (.string ⟨p.toArray⟩) ∧ w'.cell? ⟨g, 1, none⟩ = some (.bool gb) ∧ w'.cell? ⟨g, 2, none⟩ = some (.string ⟨x.toArray⟩)) [(0, true), (1, true), (4, true), (5, true), (6, true), (7, true), (8, true), (9, true), (10, true), (11, true), (12, true), (13, true), (2, false), (3, true), (14, true), (15, true), (16, true), (17, true), (18, true), (19, false), (20, false)] (by kernel_rfl) (by kernel_rfl) ?_
      simp only [Rg.pick, List.map_cons, List.map_nil, List.getD_cons_zero, List.getD_cons_succ]
      iterate 12 (refine Rg.ord_quiet (v := ?_) rfl (fun w' hS => ?_) ⟨c0, c1, c2⟩ ?_; rotate_left; (obtain ⟨s0, s1, s2⟩ := hS; go_simp; with_reducible rfl); simp only [Act.put, List.setIfInBounds_toArray, List.set_cons_succ, List.set_cons_zero])
      refine Rg.ord_loud rfl (fun K hK => ?_)
      go_simp
      refine (HP.out w1.drew (HE1.out.keep (Below.refl _ w1).drew)).mono ?_
      rintro y w2 ⟨rfl, hb2⟩
      have e0 := agr c0 hb2
      have e1 := agr c1 hb2
      have e2 := agr c2 hb2
      have Hb2 := hide (Hb1.out.drew.trans (hb2.mono Hb1.out.size))
      refine hK _ _ (fun _ => ⟨e0, e1, e2⟩) ?_
      clear hK K hb2 c0 c1 c2 Hrow HP HE1
      iterate 2 (refine Rg.ord_quiet (v := ?_) rfl (fun w' hS => ?_) ⟨e0, e1, e2⟩ ?_; rotate_left; (obtain ⟨s0, s1, s2⟩ := hS; go_simp; with_reducible rfl); simp only [Act.put, List.setIfInBounds_toArray, List.set_cons_succ, List.set_cons_zero])
      cases gb with
      | false =>
        have Hc2 := hide (show cgo none l = (can p && !lg && !false && (can p && !le) && cgo (aheadC l (k + 1)) (l.drop (k + 1))) by rw [Hc.out]; rfl)
        clear Hc
        iterate 3 (refine Rg.ord_passed (by rfl) ⟨e0, e1, e2⟩ ?_; simp only [Act.put, List.setIfInBounds_toArray, List.set_cons_succ, List.set_cons_zero])
        iterate 1 (refine Rg.ord_quiet (v := ?_) rfl (fun w' hS => ?_) ⟨e0, e1, e2⟩ ?_; rotate_left; (obtain ⟨s0, s1, s2⟩ := hS; go_simp; with_reducible rfl); simp only [Act.put, List.setIfInBounds_toArray, List.set_cons_succ, List.set_cons_zero])
        refine Rg.ord_loud rfl (fun K hK => ?_)
        go_simp
        refine hK _ _ (fun _ => ⟨agr e0 ((Below.refl _ w2).alloc (Nat.le_refl _) _), agr e1 ((Below.refl _ w2).alloc (Nat.le_refl _) _), agr e2 ((Below.refl _ w2).alloc (Nat.le_refl _) _)⟩) ?_
        clear hK K
        refine Rg.ord_loud rfl (fun K hK => ?_)
        go_simp
        refine (wrong4_any _ _ _ _ w2).mono ?_
        rintro y w3 ⟨rfl, hb3⟩
        have Hb3 := hide (Hb2.out.trans (hb3.mono Hb2.out.size))
        have f0 := agr e0 hb3
        refine hK _ _ (fun _ => ⟨f0, agr e1 hb3, agr e2 hb3⟩) ?_
        clear hK K hb3 e0 e1 e2
        refine Rg.ord_nil ?_
        cases hz : (!can p || le || lg || false) with
        | true =>
          have Hr := hide (Hc2.out.trans (four_no hz))
          clear hz Hc2 q1 q2 q3 q4 hle f0
          go_wp2
          go_ret
          exact ⟨by rw [Hr.out]; rfl, Hb3.out⟩
        | false =>
          have Hr := hide (Hc2.out.trans (four_yes hz))
          clear hz Hc2 q1 q2 q3 q4 hle
          go_wp2
          exact ⟨⟨k + 1, p, by omega, by go_num, rfl, by show Hid _; exact hide ⟨Hr.out, fun r _ => Hnx.out r⟩, Hb3.out⟩, by simp [intOf]; omega⟩
      | true =>
        have Hc2 := hide (show cgo none l = (can p && !lg && !ne && (can p && !le) && cgo (aheadC l (k + 1)) (l.drop (k + 1))) by rw [Hc.out]; rfl)
        clear Hc
        iterate 3 (refine Rg.ord_guarded (v := ?_) (by rfl) (fun w' hS => ?_) ⟨e0, e1, e2⟩ ?_; rotate_left; (obtain ⟨s0, s1, s2⟩ := hS; go_simp; with_reducible rfl); simp only [Act.put, List.setIfInBounds_toArray, List.set_cons_succ, List.set_cons_zero])
        iterate 1 (refine Rg.ord_quiet (v := ?_) rfl (fun w' hS => ?_) ⟨e0, e1, e2⟩ ?_; rotate_left; (obtain ⟨s0, s1, s2⟩ := hS; go_simp; with_reducible rfl); simp only [Act.put, List.setIfInBounds_toArray, List.set_cons_succ, List.set_cons_zero])
        refine Rg.ord_loud rfl (fun K hK => ?_)
        go_simp
        refine hK _ _ (fun _ => ⟨agr e0 ((Below.refl _ w2).alloc (Nat.le_refl _) _), agr e1 ((Below.refl _ w2).alloc (Nat.le_refl _) _), agr e2 ((Below.refl _ w2).alloc (Nat.le_refl _) _)⟩) ?_
        clear hK K
        refine Rg.ord_loud rfl (fun K hK => ?_)
        go_simp
        refine (wrong4_any _ _ _ _ w2).mono ?_
        rintro y w3 ⟨rfl, hb3⟩
        have Hb3 := hide (Hb2.out.trans (hb3.mono Hb2.out.size))
        have f0 := agr e0 hb3
        refine hK _ _ (fun _ => ⟨f0, agr e1 hb3, agr e2 hb3⟩) ?_
        clear hK K hb3 e0 e1 e2
        refine Rg.ord_nil ?_
        cases hz : (!can p || le || lg || ne) with
        | true =>
          have Hr := hide (Hc2.out.trans (four_no hz))
          clear hz Hc2 q1 q2 q3 q4 hle f0
          go_wp2
          go_ret
          exact ⟨by rw [Hr.out]; rfl, Hb3.out⟩
        | false =>
          have Hr := hide (Hc2.out.trans (four_yes hz))
          clear hz Hc2 q1 q2 q3 q4 hle
          go_wp2
          exact ⟨⟨k + 1, p, by omega, by go_num, rfl, by show Hid _; exact hide ⟨Hr.out, fun r _ => Hnx.out r⟩, Hb3.out⟩, by simp [intOf]; omega⟩
    · obtain rfl : k = N := by omega
      have Hr := hide (show cgo none l = true by rw [HR.out.1, HN.out, List.drop_length]; rfl)
      clear HR
      go_wp2
      go_ret
      exact ⟨by rw [Hr.out]; rfl, Hb.out⟩
end Go.Proofs.YtabgkfkjnpcbkaaDoor.Tr
namespace Go.Proofs.YtabgkfkjnpcbkaaDoor.Tr
open Go Go.RowKit Kt Lw Li Lx Df

def withinB (p : Pch) : Bool := decide (p.ids.length ≤ 16) && decide (p.author.length ≤ 100) && decide (p.note.length ≤ 1000) && decide (p.chs.length ≤ 100) && igo none p.ids && cgo none p.chs
theorem pright_within (p : Pch) : pright p = (withinB p && decide ((pform p).length ≤ 131072)) := rfl
theorem not_gt (n k : Nat) : decide ((k : Int) < (n : Int)) = !decide (n ≤ k) := by
  by_cases h : n ≤ k
  · rw [decide_eq_true h, decide_eq_false (by omega)]; rfl
  · rw [decide_eq_false h, decide_eq_true (by omega)]; rfl
theorem not_gt' (n k : Nat) : decide (k < n) = !decide (n ≤ k) := by
  by_cases h : n ≤ k
  · rw [decide_eq_true h, decide_eq_false (by omega)]; rfl
  · rw [decide_eq_false h, decide_eq_true (by omega)]; rfl
theorem six_is (a b c d e f : Bool) : (!(!a || !b || !c || !d || !e || !f)) = (a && c && d && e && b && f) := by
  cases a <;> cases b <;> cases c <;> cases d <;> cases e <;> cases f <;> rfl
abbrev tP : TypeId := 25
set_option maxRecDepth 100000 in
set_option maxHeartbeats 4000000 in
theorem within_any (p : Pch) (Ai Ac : Option Addr) (ci cc : Nat) (P : Nat → Prop) (w : World) (h1 : Vs w P Ai ci (texts p.ids)) (h2 : Chs w Ac cc p.chs) (hE : Most w)
    (hi : ∀ q ∈ p.ids, q.length ≤ 9223372036854775807) (hc : ∀ f ∈ p.chs, f.path.length ≤ 9223372036854775807 ∧ f.text.length ≤ 9223372036854775807)
    (l1 : p.ids.length ≤ 9223372036854775807) (l2 : p.author.length ≤ 9223372036854775807) (l3 : p.note.length ≤ 9223372036854775807) (l4 : p.chs.length ≤ 9223372036854775807) :
    Calls Tryd.prog 32 #[PchV p Ai Ac ci cc] w fun y w' => y = .returned (.bool (withinB p)) ∧ Below w.heap.size w w' := by
  obtain ⟨ids, a, o, chs⟩ := p
  simp only at h1 h2 hi hc l1 l2 l3 l4
  have HR := hide (fun (wz : World) (h : Below w.heap.size w wz) => rising_any ids Ai ci P wz (Lw.Vs.below h1 h) hi l1)
  have HP := hide (fun (wz : World) (h : Below w.heap.size w wz) => possible_any chs Ac cc wz (h2.keep h) (hE.keep h) hc l4)
  unfold PchV withinB
  simp only
  obtain ⟨N, hN⟩ : ∃ n, n = ids.length := ⟨_, rfl⟩
  obtain ⟨M, hM⟩ : ∃ n, n = chs.length := ⟨_, rfl⟩
  rw [← hN] at HR l1 ⊢
  rw [← hM] at HP l4 ⊢
  obtain ⟨g, hg⟩ : ∃ g, g = w.heap.size := ⟨_, rfl⟩
  obtain ⟨w1, hw1⟩ : ∃ w1, w1 = w.alloc (.cells #[.slice Ai N ci, .string ⟨a.toArray⟩, .string ⟨o.toArray⟩, .slice Ac M cc] tP) := ⟨_, rfl⟩
  have hrow := Row.fresh w tP #[.slice Ai N ci, .string ⟨a.toArray⟩, .string ⟨o.toArray⟩, .slice Ac M cc]
  have hb1 : Below w.heap.size w w1 := by rw [hw1]; exact (Below.refl _ w).alloc (Nat.le_refl _) _
  rw [← hw1, ← hg] at hrow
  have c0 : w1.drew.cell? ⟨g, 0, none⟩ = some (.slice Ai N ci) := hrow.cell 0
  have c1 : w1.drew.cell? ⟨g, 1, none⟩ = some (.string ⟨a.toArray⟩) := hrow.cell 1
  have c2 : w1.drew.cell? ⟨g, 2, none⟩ = some (.string ⟨o.toArray⟩) := hrow.cell 2
  have c3 : w1.drew.cell? ⟨g, 3, none⟩ = some (.slice Ac M cc) := hrow.cell 3
  have q1 := not_gt N 16
  have q2 := not_gt a.length 100
  have q3 := not_gt o.length 1000
  have q4 := not_gt M 100
  have q5 := not_gt' N 16
  have q6 := not_gt' a.length 100
  have q7 := not_gt' o.length 1000
  have q8 := not_gt' M 100
  simp only [Int.cast_ofNat_Int] at q1 q2 q3 q4
  have W1 := hide hw1
  have G1 := hide hg
  have Hb1 := hide hb1.drew
  obtain ⟨b1, e1⟩ : ∃ b, b = decide (N ≤ 16) := ⟨_, rfl⟩
  obtain ⟨b2, e2⟩ : ∃ b, b = decide (a.length ≤ 100) := ⟨_, rfl⟩
  obtain ⟨b3, e3⟩ : ∃ b, b = decide (o.length ≤ 1000) := ⟨_, rfl⟩
  obtain ⟨b4, e4⟩ : ∃ b, b = decide (M ≤ 100) := ⟨_, rfl⟩
  rw [← e1] at q1 q5 ⊢
  rw [← e2] at q2 q6 ⊢
  rw [← e3] at q3 q7 ⊢
  rw [← e4] at q4 q8 ⊢
  clear hrow hw1 hg hb1 h1 h2 hE hi hc hN hM e1 e2 e3 e4
  go_enter Tryd.func32, Tryd.ntmps32
  go_wp2_with (first | rw [← W1.out, ← G1.out] | fail)
  refine Rg.wp_region_ord (fun w' => w'.cell? ⟨g, 0, none⟩ = some (.slice Ai N ci) ∧ w'.cell? ⟨g, 1, none⟩ = some (.string ⟨a.toArray⟩) ∧ w'.cell? ⟨g, 2, none⟩ = some (.string ⟨o.toArray⟩) ∧ w'.cell? ⟨g, 3, none⟩ = some (.slice Ac M cc)) [(0, true), (1, true), (2, true), (3, true), (4, true), (5, true), (8, true), (9, true), (10, true), (11, true), (12, true), (13, true), (14, true), (15, true), (16, true), (17, true), (18, true), (19, true), (20, true), (21, true), (6, false), (7, true), (22, false), (23, true), (24, false), (25, false), (26, true), (27, true)] (by kernel_rfl) (by kernel_rfl) ?_
  simp only [Rg.pick, List.map_cons, List.map_nil, List.getD_cons_zero, List.getD_cons_succ]
  iterate 20 (refine Rg.ord_quiet (v := ?_) rfl (fun w' hS => ?_) ⟨c0, c1, c2, c3⟩ ?_; rotate_left; (obtain ⟨s0, s1, s2, s3⟩ := hS; go_simp; with_reducible rfl); simp only [Act.put, List.setIfInBounds_toArray, List.set_cons_succ, List.set_cons_zero])
  refine Rg.ord_loud rfl (fun K hK => ?_)
  go_simp
  refine (HR.out w1.drew Hb1.out).mono ?_
  rintro y w2 ⟨rfl, hb2⟩
  have d0 := agr c0 hb2
  have d1 := agr c1 hb2
  have d2 := agr c2 hb2
  have d3 := agr c3 hb2
  have Hb2 := hide (Hb1.out.trans (hb2.mono Hb1.out.size))
  refine hK _ _ (fun _ => ⟨d0, d1, d2, d3⟩) ?_
  clear hK K hb2 c0 c1 c2 c3 HR Hb1
  iterate 1 (refine Rg.ord_quiet (v := ?_) rfl (fun w' hS => ?_) ⟨d0, d1, d2, d3⟩ ?_; rotate_left; (obtain ⟨s0, s1, s2, s3⟩ := hS; go_simp; with_reducible rfl); simp only [Act.put, List.setIfInBounds_toArray, List.set_cons_succ, List.set_cons_zero])
  refine Rg.ord_loud rfl (fun K hK => ?_)
  go_simp
  refine (HP.out w2 Hb2.out).mono ?_
  rintro y w3 ⟨rfl, hb3⟩
  have c0 := agr d0 hb3
  have c1 := agr d1 hb3
  have c2 := agr d2 hb3
  have c3 := agr d3 hb3
  have Hb3 := hide (Hb2.out.trans (hb3.mono Hb2.out.size))
  refine hK _ _ (fun _ => ⟨c0, c1, c2, c3⟩) ?_
  clear hK K hb3 d0 d1 d2 d3 HP Hb2
  iterate 1 (refine Rg.ord_quiet (v := ?_) rfl (fun w' hS => ?_) ⟨c0, c1, c2, c3⟩ ?_; rotate_left; (obtain ⟨s0, s1, s2, s3⟩ := hS; go_simp; with_reducible rfl); simp only [Act.put, List.setIfInBounds_toArray, List.set_cons_succ, List.set_cons_zero])
  refine Rg.ord_loud rfl (fun K hK => ?_)
  go_simp
  refine hK _ _ (fun _ => ⟨agr c0 ((Below.refl _ w3).alloc (Nat.le_refl _) _), agr c1 ((Below.refl _ w3).alloc (Nat.le_refl _) _), agr c2 ((Below.refl _ w3).alloc (Nat.le_refl _) _), agr c3 ((Below.refl _ w3).alloc (Nat.le_refl _) _)⟩) ?_
  clear hK K
  refine Rg.ord_loud rfl (fun K hK => ?_)
  go_simp
  refine (wrong6_any _ _ _ _ _ _ w3).mono ?_
  rintro y w4 ⟨rfl, hb4⟩
  have d0 := agr c0 hb4
  have d1 := agr c1 hb4
  have d2 := agr c2 hb4
  have d3 := agr c3 hb4
  have Hb4 := hide (Hb3.out.trans (hb4.mono Hb3.out.size))
  refine hK _ _ (fun _ => ⟨d0, d1, d2, d3⟩) ?_
  clear hK K hb4 c0 c1 c2 c3 Hb3
  iterate 2 (refine Rg.ord_quiet (v := ?_) rfl (fun w' hS => ?_) ⟨d0, d1, d2, d3⟩ ?_; rotate_left; (obtain ⟨s0, s1, s2, s3⟩ := hS; go_simp; with_reducible rfl); simp only [Act.put, List.setIfInBounds_toArray, List.set_cons_succ, List.set_cons_zero])
  refine Rg.ord_nil ?_
  clear d0 d1 d2 d3
  have Hz := hide (six_is b1 (igo none ids) b2 b3 b4 (cgo none chs))
  go_wp2
  go_ret
  exact ⟨by rw [← Hz.out]; simp [*], Hb4.out⟩
end Go.Proofs.YtabgkfkjnpcbkaaDoor.Tr
namespace Go.Proofs.YtabgkfkjnpcbkaaDoor.Tr
open Go Go.RowKit Kt Lw Li Lx Df Wr

theorem flat_le {α : Type} (f : α → Bs) (b : Nat) : ∀ (L : List α), (∀ x ∈ L, (f x).length ≤ b) → (L.flatMap f).length ≤ b * L.length
  | [], _ => by simp
  | x :: L, h => by
    have h1 := h x (by simp)
    have ih := flat_le f b L fun y hy => h y (by simp [hy])
    rw [List.flatMap_cons, List.length_append, List.length_cons, Nat.mul_succ]; omega
theorem within_is {p : Pch} (h : withinB p = true) : p.ids.length ≤ 16 ∧ p.author.length ≤ 100 ∧ p.note.length ≤ 1000 ∧ p.chs.length ≤ 100 ∧ (∀ q ∈ p.ids, q.length = 32) ∧ ∀ c ∈ p.chs, c.path.length ≤ 200 ∧ c.text.length ≤ 65536 := by
  simp only [withinB, Bool.and_eq_true, decide_eq_true_eq] at h
  refine ⟨h.1.1.1.1.1, h.1.1.1.1.2, h.1.1.1.2, h.1.1.2, igo_len h.1.2, fun c hc => ?_⟩
  obtain ⟨_, h2, h3, _⟩ := cgo_above h.2 c hc
  exact ⟨(can_lt h2).2, h3⟩
set_option maxRecDepth 100000 in
theorem fCh_short {c : Ch} (h : c.path.length ≤ 200 ∧ c.text.length ≤ 65536) : (fCh c).length ≤ 65766 := by
  have := fCh_len (c := c) (by omega) (by omega)
  omega
set_option maxRecDepth 100000 in
theorem conv_id (s : List UInt8) (w : World) : ∃ cap ob, (convert 33 28 (.string ⟨s.toArray⟩)).run Tryd.prog w = .ok (.slice (some ⟨w.heap.size, 0, none⟩) s.length cap) (w.drew.alloc ob) ∧ Sl (w.drew.alloc ob) (fun _ => True) (some ⟨w.heap.size, 0, none⟩) cap s :=
  conv_txt s w
/-- what is put of parents -/
theorem ids_put {l : List Bs} (h : ∀ q ∈ l, q.length = 32) (hl : l.length ≤ 16) (k : Nat) : ((l.take k).flatMap txt).length ≤ 700 := by
  have h1 := flat_le txt 42 (l.take k) fun q hq => by
    have := h q (List.mem_of_mem_take hq)
    have := txt_len (s := q) (by omega)
    omega
  have h2 := List.length_take_le k l
  have h3 : (l.take k).length ≤ 16 := by rw [List.length_take]; omega
  omega
theorem chs_put {l : List Ch} (h : ∀ c ∈ l, c.path.length ≤ 200 ∧ c.text.length ≤ 65536) (hl : l.length ≤ 100) (k : Nat) : ((l.take k).flatMap fCh).length ≤ 7000000 := by
  have h1 := flat_le fCh 65766 (l.take k) fun c hc => fCh_short (h c (List.mem_of_mem_take hc))
  have h3 : (l.take k).length ≤ 100 := by rw [List.length_take]; omega
  omega
set_option maxRecDepth 100000 in
set_option maxHeartbeats 8000000 in
theorem pform_any (p : Pch) (Ai Ac : Option Addr) (ci cc : Nat) (P : Nat → Prop) (w : World) (h1 : Vs w P Ai ci (texts p.ids)) (h2 : Chs w Ac cc p.chs) (hp : withinB p = true) :
    Calls Tryd.prog 33 #[PchV p Ai Ac ci cc] w fun y w' => ∃ v, y = .returned v ∧ Own w' w.heap.size 5 v (pform p) ∧ Below w.heap.size w w' := by
  obtain ⟨i1, i2, i3, i4, i5, i6⟩ := within_is hp
  obtain ⟨ids, a, o, chs⟩ := p
  simp only at h1 h2 i1 i2 i3 i4 i5 i6
  have Hi := hide h1.bound
  have Hc := hide h2
  have H5 := hide i5
  have H6 := hide i6
  have HLi := hide (ids_put i5 i1)
  have HLc := hide (chs_put i6 i4)
  have i1' := i1
  have i4' := i4
  unfold PchV pform
  simp only
  obtain ⟨N, hN⟩ : ∃ n, n = ids.length := ⟨_, rfl⟩
  obtain ⟨M, hM⟩ : ∃ n, n = chs.length := ⟨_, rfl⟩
  rw [← hN] at i1 ⊢
  rw [← hM] at i4 ⊢
  have HN := hide hN
  have HM := hide hM
  have ha10 := txt_len (s := a) (by omega)
  have ho10 := txt_len (s := o) (by omega)
  have hfN := form_len (n := N) (by omega)
  have hfM := form_len (n := M) (by omega)
  obtain ⟨g, hg⟩ : ∃ g, g = w.heap.size := ⟨_, rfl⟩
  obtain ⟨w1, hw1⟩ : ∃ w1, w1 = w.alloc (.cells #[.slice Ai N ci, .string ⟨a.toArray⟩, .string ⟨o.toArray⟩, .slice Ac M cc] tP) := ⟨_, rfl⟩
  have hrow := Row.fresh w tP #[.slice Ai N ci, .string ⟨a.toArray⟩, .string ⟨o.toArray⟩, .slice Ac M cc]
  have hb1 : Below w.heap.size w w1 := by rw [hw1]; exact (Below.refl _ w).alloc (Nat.le_refl _) _
  rw [← hw1, ← hg] at hrow
  have HC := hide (show ∀ wz, Below w1.heap.size w1 wz → wz.cell? ⟨g, 0, none⟩ = some (.slice Ai N ci) ∧ wz.cell? ⟨g, 1, none⟩ = some (.string ⟨a.toArray⟩) ∧ wz.cell? ⟨g, 2, none⟩ = some (.string ⟨o.toArray⟩) ∧ wz.cell? ⟨g, 3, none⟩ = some (.slice Ac M cc) from fun wz hz => by
    have hr := hrow.below hz hrow.lt
    exact ⟨hr.cell 0, hr.cell 1, hr.cell 2, hr.cell 3⟩)
  have HF := hide (show ∀ wz, Below w1.heap.size w1 wz → Below w.heap.size w wz from fun wz h => hb1.trans (h.mono hb1.size))
  have HB1 := hide (show w.heap.size ≤ w1.heap.size from hb1.size)
  have W1 := hide hw1
  have G1 := hide hg
  have hcvN : IntKind.u64.wrap (N : Int) = (N : Int) := IntWalk.u64_in (n := (N : Int)) (by omega)
  have hcvM : IntKind.u64.wrap (M : Int) = (M : Int) := IntWalk.u64_in (n := (M : Int)) (by omega)
  have HTN := hide (fun wz => num_any [] N none 0 (fun _ => True) wz (Sl.nil _ _ _ _) (by omega) (by simp))
  have Hsm := hide (show N ≤ 16 ∧ M ≤ 100 ∧ a.length ≤ 100 ∧ o.length ≤ 1000 from ⟨i1, i4, i2, i3⟩)
  have Hln := hide (show (txt a).length ≤ 110 ∧ (txt o).length ≤ 1010 ∧ (form N).length ≤ 10 ∧ (form M).length ≤ 10 from ⟨by omega, by omega, hfN, hfM⟩)
  clear h1 h2 hp hN hM hrow hw1 hg hb1 i5 i6 ha10 ho10 hfN hfM i1' i4' i2 i3
  go_enter Tryd.func33, Tryd.ntmps33
  obtain ⟨k0, k1, k2, k3⟩ := HC.out w1 (Below.refl _ _)
  go_wp2_with (first | rw [← W1.out, ← G1.out] | fail)
  refine (HTN.out w1).mono ?_
  rintro y w2 ⟨v2, rfl, hown2, hb2⟩
  have Hown2 := hide hown2
  have Hb2 := hide hb2
  clear hown2 hb2 HTN hcvN k0 k1 k2 k3
  obtain ⟨k0, k1, k2, k3⟩ := HC.out w2 Hb2.out
  go_wp2_with fail
  clear k0 k1 k2 k3
  go_loopw [3, 16] (fun s i wr => ∃ (k : Nat) (v0 : Value), v0 = s ∧ k ≤ N ∧ i = .int .i64 k ∧ Own wr w1.heap.size 5 v0 (form N ++ (ids.take k).flatMap txt) ∧ Below w1.heap.size w1 wr) (fun _ i _ => N - (intOf i).toNat)
  case atStart => exact ⟨0, _, rfl, Nat.zero_le _, rfl, by simpa using Hown2.out, Hb2.out⟩
  case round =>
    obtain ⟨k, v, rfl, hk, rfl, hown, hb⟩ := hrel
    clear Hown2 Hb2
    have Hb := hide hb
    have Hown := hide hown
    clear hb hown
    by_cases hlt : k < N
    · have hkl : k < ids.length := by rw [← HN.out]; exact hlt
      obtain ⟨b, oo, rfl, ck⟩ := Hi.out.text (HF.out _ Hb.out) (k := k) hkl
      have h32 := H5.out (ids.getD k []) (by rw [List.getD_eq_getElem?_getD, List.getElem?_eq_getElem hkl]; exact List.getElem_mem hkl)
      have Htk := hide (show form N ++ (ids.take (k + 1)).flatMap txt = (form N ++ (ids.take k).flatMap txt) ++ (form (ids.getD k []).length ++ ids.getD k []) by
        rw [take_snocD hkl, List.flatMap_append, List.append_assoc]; simp [txt])
      have hlen := HLi.out k
      have hfl := Hln.out.2.2.1
      have hbl : (form N ++ (ids.take k).flatMap txt).length ≤ 800 := by rw [List.length_append]; omega
      generalize ids.getD k [] = x at *
      generalize form N ++ (ids.take k).flatMap txt = bs at *
      obtain ⟨A4, c4, rfl, hsl4⟩ := Hown.out.sl
      obtain ⟨cap4, ob4, hcv4, hcs4⟩ := conv_id x wr
      obtain ⟨z4, hz4⟩ : ∃ z, z = wr.drew.alloc ob4 := ⟨_, rfl⟩
      rw [← hz4] at hcv4 hcs4
      have hbz4 : Below wr.heap.size wr z4 := by rw [hz4]; exact ((Below.refl _ wr).drew).alloc (Nat.le_refl _) _
      have HT4 := hide (text_put bs x A4 c4 (some ⟨wr.heap.size, 0, none⟩) cap4 _ _ z4 (hsl4.move fun g _ hlt => hbz4.block g hlt) hcs4 (by omega))
      have Hbz4 := hide (Hb.out.trans (hbz4.mono Hb.out.size))
      obtain ⟨nb4, hnb4⟩ : ∃ z, z = List.length bs := ⟨_, rfl⟩
      obtain ⟨nx4, hnx4⟩ : ∃ z, z = List.length x := ⟨_, rfl⟩
      obtain ⟨qn4, hqn4⟩ : ∃ z, z = wr.heap.size := ⟨_, rfl⟩
      rw [← hnb4] at HT4 ⊢
      rw [← hnx4, ← hqn4] at HT4 hcv4
      have HX4 := hide hnx4
      clear hsl4 hcs4 hz4 hbz4 hnb4 hnx4 hqn4 hlen hfl hbl h32 hkl
      go_wp2_with fail
      refine HT4.out.mono ?_
      rintro y w4 ⟨v4, rfl, hown4, hb4⟩
      rw [HX4.out] at hown4
      have Hown4 := hide (own_based hown4 Hbz4.out.size)
      have Hb4 := hide (Hbz4.out.trans (hb4.mono Hbz4.out.size))
      clear hown4 hb4 HT4 hcv4 Hown Hb Hbz4 HX4
      go_wp2
      exact ⟨⟨k + 1, _, rfl, by omega, by go_num, by rw [Htk.out]; exact Hown4.out, Hb4.out⟩, by simp [intOf]; omega⟩
    · obtain rfl : k = N := by omega
      have hown := Hown.out
      rw [HN.out, List.take_length, ← HN.out] at hown
      have Hown9 := hide hown
      have hlen := HLi.out k
      rw [HN.out, List.take_length] at hlen
      obtain ⟨k0, k1, k2, k3⟩ := HC.out wr Hb.out
      clear hown Hown
      have hl0 : (form k ++ ids.flatMap txt).length ≤ 800 := by rw [List.length_append]; have := Hln.out.2.2.1; omega
      generalize hbs0 : form k ++ ids.flatMap txt = bs0 at *
      have Hbs0 := hide hbs0
      obtain ⟨wp, hwp⟩ : ∃ z, z = wr := ⟨_, rfl⟩
      subst hwp
      clear hlen hbs0
      obtain ⟨A5, c5, rfl, hsl5⟩ := Hown9.out.sl
      obtain ⟨cap5, ob5, hcv5, hcs5⟩ := conv_txt a wp
      obtain ⟨z5, hz5⟩ : ∃ z, z = wp.drew.alloc ob5 := ⟨_, rfl⟩
      rw [← hz5] at hcv5 hcs5
      have hbz5 : Below wp.heap.size wp z5 := by rw [hz5]; exact ((Below.refl _ wp).drew).alloc (Nat.le_refl _) _
      have HT5 := hide (text_put bs0 a A5 c5 (some ⟨wp.heap.size, 0, none⟩) cap5 _ _ z5 (hsl5.move fun g _ hlt => hbz5.block g hlt) hcs5 (by have := Hsm.out; omega))
      have Hbz5 := hide (Hb.out.trans (hbz5.mono Hb.out.size))
      obtain ⟨nb5, hnb5⟩ : ∃ z, z = List.length bs0 := ⟨_, rfl⟩
      obtain ⟨nx5, hnx5⟩ : ∃ z, z = List.length a := ⟨_, rfl⟩
      obtain ⟨qn5, hqn5⟩ : ∃ z, z = wp.heap.size := ⟨_, rfl⟩
      rw [← hnb5] at HT5 ⊢
      rw [← hnx5, ← hqn5] at HT5 hcv5
      have HX5 := hide hnx5
      clear hsl5 hcs5 hz5 hbz5 hnb5 hnx5 hqn5 
      go_wp2_with fail
      refine HT5.out.mono ?_
      rintro y w5 ⟨v5, rfl, hown5, hb5⟩
      rw [HX5.out] at hown5
      have Hown5 := hide (own_based hown5 Hbz5.out.size)
      have Hb5 := hide (Hbz5.out.trans (hb5.mono Hbz5.out.size))
      clear hown5 hb5 HT5 hcv5 Hown9 Hb Hbz5 HX5
      have hl1 : (bs0 ++ (form a.length ++ a)).length ≤ 1000 := by rw [List.length_append]; have := Hln.out.1; unfold txt at this; omega
      generalize hbs1 : bs0 ++ (form a.length ++ a) = bs1 at *
      have Hbs1 := hide hbs1
      clear hbs1 k0 k1 k2 k3 hl0
      obtain ⟨k0, k1, k2, k3⟩ := HC.out w5 Hb5.out
      obtain ⟨A6, c6, rfl, hsl6⟩ := Hown5.out.sl
      obtain ⟨cap6, ob6, hcv6, hcs6⟩ := conv_txt o w5
      obtain ⟨z6, hz6⟩ : ∃ z, z = w5.drew.alloc ob6 := ⟨_, rfl⟩
      rw [← hz6] at hcv6 hcs6
      have hbz6 : Below w5.heap.size w5 z6 := by rw [hz6]; exact ((Below.refl _ w5).drew).alloc (Nat.le_refl _) _
      have HT6 := hide (text_put bs1 o A6 c6 (some ⟨w5.heap.size, 0, none⟩) cap6 _ _ z6 (hsl6.move fun g _ hlt => hbz6.block g hlt) hcs6 (by have := Hsm.out; omega))
      have Hbz6 := hide (Hb5.out.trans (hbz6.mono Hb5.out.size))
      obtain ⟨nb6, hnb6⟩ : ∃ z, z = List.length bs1 := ⟨_, rfl⟩
      obtain ⟨nx6, hnx6⟩ : ∃ z, z = List.length o := ⟨_, rfl⟩
      obtain ⟨qn6, hqn6⟩ : ∃ z, z = w5.heap.size := ⟨_, rfl⟩
      rw [← hnb6] at HT6 ⊢
      rw [← hnx6, ← hqn6] at HT6 hcv6
      have HX6 := hide hnx6
      clear hsl6 hcs6 hz6 hbz6 hnb6 hnx6 hqn6 
      go_wp2_with fail
      refine HT6.out.mono ?_
      rintro y w6 ⟨v6, rfl, hown6, hb6⟩
      rw [HX6.out] at hown6
      have Hown6 := hide (own_based hown6 Hbz6.out.size)
      have Hb6 := hide (Hbz6.out.trans (hb6.mono Hbz6.out.size))
      clear hown6 hb6 HT6 hcv6 Hown5 Hb5 Hbz6 HX6
      have hl2 : (bs1 ++ (form o.length ++ o)).length ≤ 3000 := by rw [List.length_append]; have := Hln.out.2.1; unfold txt at this; omega
      generalize hbs2 : bs1 ++ (form o.length ++ o) = bs2 at *
      have Hbs2 := hide hbs2
      clear hbs2 k0 k1 k2 k3 hl1
      obtain ⟨k0, k1, k2, k3⟩ := HC.out w6 Hb6.out
      obtain ⟨A7, c7, rfl, hsl7⟩ := Hown6.out.sl
      have HT7 := hide (num_any bs2 M A7 c7 _ w6 hsl7 (by omega) (by omega))
      obtain ⟨nb7, hnb7⟩ : ∃ z, z = List.length bs2 := ⟨_, rfl⟩
      rw [← hnb7] at HT7 ⊢
      clear hsl7 hnb7
      go_wp2_with fail
      refine HT7.out.mono ?_
      rintro y w7 ⟨v7, rfl, hown7, hb7⟩
      have Hown7 := hide (own_based hown7 Hb6.out.size)
      have Hb7 := hide (Hb6.out.trans (hb7.mono Hb6.out.size))
      clear hown7 hb7 HT7 Hown6 Hb6
      have hl3 : (bs2 ++ form M).length ≤ 4000 := by rw [List.length_append]; have := Hln.out.2.2.2; omega
      generalize hbs3 : bs2 ++ form M = bs3 at *
      have Hbs3 := hide hbs3
      clear hbs3 k0 k1 k2 k3 hl2
      have He := hide (show bs3 ++ chs.flatMap fCh = form k ++ (ids.flatMap txt ++ (txt a ++ (txt o ++ (form M ++ chs.flatMap fCh)))) by
        rw [← Hbs3.out, ← Hbs2.out, ← Hbs1.out, ← Hbs0.out]; simp [txt])
      obtain ⟨k0, k1, k2, k3⟩ := HC.out w7 Hb7.out
      go_wp2_with fail
      clear k0 k1 k2 k3 hcvM
      go_loopw [3, 44] (fun s i wr => ∃ (j : Nat) (v0 : Value), v0 = s ∧ j ≤ M ∧ i = .int .i64 j ∧ Own wr w1.heap.size 5 v0 (bs3 ++ (chs.take j).flatMap fCh) ∧ Below w1.heap.size w1 wr) (fun _ i _ => M - (intOf i).toNat)
      case atStart => exact ⟨0, _, rfl, Nat.zero_le _, rfl, by simpa using Hown7.out, Hb7.out⟩
      case round =>
        obtain ⟨j, v, rfl, hj, rfl, hown, hb⟩ := hrel
        clear Hown7 Hb7
        have Hb := hide hb
        have Hown := hide hown
        clear hb hown
        by_cases hlt : j < M
        · obtain ⟨b, oo, f, rfl, hbl, hf, hd, d0, dm, d1⟩ := Hc.out.at (w' := wr) (HF.out _ Hb.out) (k := j) (by have := HM.out; omega)
          have hft := H6.out f (List.mem_of_getElem? hf)
          have Htk := hide (show bs3 ++ (chs.take (j + 1)).flatMap fCh = (bs3 ++ (chs.take j).flatMap fCh) ++ fCh f by
            rw [take_snocC hf, List.flatMap_append, List.append_assoc]; simp)
          have hlen := HLc.out j
          have hfl := fCh_short hft
          have hbL : (bs3 ++ (chs.take j).flatMap fCh).length ≤ 8000000 := by rw [List.length_append]; omega
          obtain ⟨bs, hbs⟩ : ∃ bs, bs = bs3 ++ (chs.take j).flatMap fCh := ⟨_, rfl⟩
          rw [← hbs] at Hown Htk hbL
          have HFc := hide (fun wz => change_any f wz hft.1 hft.2)
          obtain ⟨l, hl⟩ : ∃ l, l = fCh f := ⟨_, rfl⟩
          rw [← hl] at HFc Htk hfl
          obtain ⟨p, gn, x⟩ := f
          simp only at d0 dm d1 HFc
          have hrow := Row.fresh wr tC #[.string ⟨p.toArray⟩, .bool gn, .string ⟨x.toArray⟩]
          have ho1 := (Below.refl wr.heap.size wr).alloc (Nat.le_refl _) (.cells #[.string ⟨p.toArray⟩, .bool gn, .string ⟨x.toArray⟩] tC)
          have c0 := hrow.cell 0
          have c1 := hrow.cell 1
          have c2 := hrow.cell 2
          simp only [List.getElem?_cons_zero, List.getElem?_cons_succ] at c0 c1 c2
          have Hlen := hide (show bs.length + l.length ≤ 70368744177664 by omega)
          have HbA := hide (Hb.out.alloc Hb.out.size (.cells #[.string ⟨p.toArray⟩, .bool gn, .string ⟨x.toArray⟩] tC))
          have HownA := hide (Hown.out.kept ho1)
          clear hf hd hbl hlen hfl hbL hbs hl hrow ho1 hft Hown
          go_wp2_with fail
          refine (HFc.out _).mono ?_
          rintro y w4 ⟨v4, rfl, hown4, hb4⟩
          have Hb4 := hide (HbA.out.trans (hb4.mono HbA.out.size))
          have HownB := hide (HownA.out.kept hb4)
          obtain ⟨A4, c4, rfl, hsl4⟩ := hown4.sl
          have Hsl4 := hide hsl4
          clear hown4 hb4 hsl4 HFc HownA c0 c1 c2 d0 dm d1
          rename_i KK hKK
          refine hKK _ _ ?_
          clear hKK KK
          refine wpList_cat rfl (.tmp 48) (.tmp 50) 28 rfl Tryd.underlying28 info8 w1.heap.size w1 _ bs l _ A4 c4 rfl rfl HownB.out Hsl4.out Hlen.out Hb4.out Hb4.out.size ?_
          intro v5 w5 hown5 hb5 _
          have Hown5 := hide hown5
          have Hb5 := hide hb5
          clear hown5 hb5
          go_wp2
          exact ⟨⟨j + 1, _, rfl, by omega, by go_num, by rw [Htk.out]; exact Hown5.out, Hb5.out⟩, by simp [intOf]; omega⟩
        · obtain rfl : j = M := by omega
          have hown := Hown.out
          rw [HM.out, List.take_length, He.out] at hown
          have Hown9 := hide (own_based hown HB1.out)
          clear hown Hown
          go_wp2
          go_ret
          exact ⟨_, rfl, Hown9.out, HF.out _ Hb.out⟩
end Go.Proofs.YtabgkfkjnpcbkaaDoor.Tr
