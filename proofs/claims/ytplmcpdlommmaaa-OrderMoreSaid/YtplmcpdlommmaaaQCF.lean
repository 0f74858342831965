/-
  order: ids held against each other, by rank.
-/
import Derived.Shelf.Abstract
import Derived.RegionTactic
import Derived.BigQuiet
import Derived.WalkKit
import Derived.Test.YtplmcpdlommmaaaQReg
import Derived.Test.YtplmcpdlommmaaaQDG
import Derived.Test.YtplmcpdlommmaaaQCC
import Derived.Test.YtplmcpdlommmaaaQXP
import Derived.Test.YtplmcpdlommmaaaQDO
namespace Go.Proofs.Ytplmcpdlommmaaa.Oq
open Go Go.RowKit Kt Kg Lw Tr Dq

abbrev tRk : TypeId := 81
/-- below 0, 0, or above 0 -/
def cmpS (a b : Bs) : Int := if lt a b then -1 else if lt b a then 1 else 0
def cmpN (x y : Int) : Int := if x < y then -1 else if y < x then 1 else 0
def cmpR (D : List Nd) (a b : Bs) : Int := if cmpN (level D a) (level D b) = 0 then cmpS a b else cmpN (level D a) (level D b)
theorem cmpN_neg {x y : Int} : cmpN x y < 0 ↔ x < y := by unfold cmpN; split <;> (try split) <;> omega
theorem cmpN_zero {x y : Int} : cmpN x y = 0 ↔ x = y := by unfold cmpN; split <;> (try split) <;> omega
theorem cmpN_pos {x y : Int} : 0 < cmpN x y ↔ y < x := by unfold cmpN; split <;> (try split) <;> omega
theorem cmpS_neg {a b : Bs} : cmpS a b < 0 ↔ lt a b = true := by
  unfold cmpS
  cases h : lt a b <;> cases h2 : lt b a <;> simp
theorem cmpS_pos {a b : Bs} : 0 < cmpS a b ↔ lt b a = true := by
  unfold cmpS
  cases h : lt a b
  · cases h2 : lt b a <;> simp
  · rw [lt_asymm h]; simp
theorem cmpR_neg {D : List Nd} {a b : Bs} : cmpR D a b < 0 ↔ rlt D a b := by
  unfold cmpR rlt
  split
  · next h =>
    rw [cmpN_zero] at h
    rw [cmpS_neg]
    exact ⟨fun k => .inr ⟨h, k⟩, fun k => k.elim (fun z => by omega) fun z => z.2⟩
  · next h =>
    rw [cmpN_zero] at h
    rw [cmpN_neg]
    exact ⟨.inl, fun k => k.elim id fun z => absurd z.1 h⟩
theorem cmpR_pos {D : List Nd} {a b : Bs} : 0 < cmpR D a b ↔ rlt D b a := by
  unfold cmpR rlt
  split
  · next h =>
    rw [cmpN_zero] at h
    rw [cmpS_pos]
    exact ⟨fun k => .inr ⟨h.symm, k⟩, fun k => k.elim (fun z => by omega) fun z => z.2⟩
  · next h =>
    rw [cmpN_zero] at h
    rw [cmpN_pos]
    exact ⟨.inl, fun k => k.elim id fun z => absurd z.1.symm h⟩
theorem run_gtr (p q : Bs) (w : World) : (binOp .gtr tId (.string ⟨p.toArray⟩) (.string ⟨q.toArray⟩)).run Try.prog w = .ok (.bool (lt q p)) w := by
  have h : (!(Op.bytesLess p q || p == q)) = lt q p := by
    rcases lt_tri p q with h | h | h
    · rw [lt_asymm h, show Op.bytesLess p q = true from h]; rfl
    · subst h; rw [lt_irr]; simp
    · rw [h, show Op.bytesLess p q = false from lt_asymm h, show (p == q) = false by rw [beq_eq_false_iff_ne]; exact (lt_ne h).symm]; rfl
  rw [← h]
  clear h
  show (Op.stringOp .gtr ⟨p.toArray⟩ ⟨q.toArray⟩).run Try.prog w = _
  simp only [Op.stringOp, Lib.toList_data]
  rfl
set_option maxRecDepth 100000 in
set_option maxHeartbeats 2000000 in
theorem nanN_any (z : Int) (w : World) : Calls Try.prog 103 #[.int .i64 z] w fun e w' => e = .returned (.bool false) ∧ w' = w := by
  have hz : (z != z) = false := by simp
  go_enter Try.func103, Try.ntmps103
  go_wp2
  go_ret
  exact ⟨rfl, rfl⟩
set_option maxRecDepth 100000 in
set_option maxHeartbeats 2000000 in
theorem nanS_any (z : Bs) (w : World) : Calls Try.prog 104 #[.string ⟨z.toArray⟩] w fun e w' => e = .returned (.bool false) ∧ w' = w := by
  have hz : (z != z) = false := by simp
  have hz2 : (z == z) = true := by simp
  go_enter Try.func104, Try.ntmps104
  go_wp2
  go_ret
  exact ⟨rfl, rfl⟩
set_option maxRecDepth 100000 in
set_option maxHeartbeats 2000000 in
theorem compareN_any (x y : Int) (w : World) : Calls Try.prog 77 #[.int .i64 x, .int .i64 y] w fun e w' => e = .returned (.int .i64 (cmpN x y)) ∧ w' = w := by
  by_cases h1 : x < y
  · rw [show cmpN x y = -1 from if_pos h1]
    have d1 : decide (x < y) = true := decide_eq_true h1
    go_enter Try.func77, Try.ntmps77
    go_wp2_with fail
    refine (nanN_any _ _).mono ?_
    rintro e w1 ⟨rfl, rfl⟩
    go_wp2_with fail
    refine (nanN_any _ _).mono ?_
    rintro e w2 ⟨rfl, rfl⟩
    go_wp2
    go_ret
    exact ⟨rfl, rfl⟩
  · have d1 : decide (x < y) = false := decide_eq_false h1
    by_cases h2 : y < x
    · rw [show cmpN x y = 1 from by unfold cmpN; rw [if_neg h1, if_pos h2]]
      have d2 : decide (y < x) = true := decide_eq_true h2
      go_enter Try.func77, Try.ntmps77
      go_wp2_with fail
      refine (nanN_any _ _).mono ?_
      rintro e w1 ⟨rfl, rfl⟩
      go_wp2_with fail
      refine (nanN_any _ _).mono ?_
      rintro e w2 ⟨rfl, rfl⟩
      go_wp2
      go_ret
      exact ⟨rfl, rfl⟩
    · rw [show cmpN x y = 0 from by unfold cmpN; rw [if_neg h1, if_neg h2]]
      have d2 : decide (y < x) = false := decide_eq_false h2
      go_enter Try.func77, Try.ntmps77
      go_wp2_with fail
      refine (nanN_any _ _).mono ?_
      rintro e w1 ⟨rfl, rfl⟩
      go_wp2_with fail
      refine (nanN_any _ _).mono ?_
      rintro e w2 ⟨rfl, rfl⟩
      go_wp2
      go_ret
      exact ⟨rfl, rfl⟩
set_option maxRecDepth 100000 in
set_option maxHeartbeats 2000000 in
theorem compareS_any (x y : Bs) (w : World) : Calls Try.prog 78 #[.string ⟨x.toArray⟩, .string ⟨y.toArray⟩] w fun e w' => e = .returned (.int .i64 (cmpS x y)) ∧ w' = w := by
  cases h1 : lt x y with
  | true =>
    rw [show cmpS x y = -1 from by unfold cmpS; rw [h1]; rfl]
    go_enter Try.func78, Try.ntmps78
    go_wp2_with fail
    refine (nanS_any _ _).mono ?_
    rintro e w1 ⟨rfl, rfl⟩
    go_wp2_with fail
    refine (nanS_any _ _).mono ?_
    rintro e w2 ⟨rfl, rfl⟩
    go_wp2
    go_ret
    exact ⟨rfl, rfl⟩
  | false =>
    cases h2 : lt y x with
    | true =>
      rw [show cmpS x y = 1 from by unfold cmpS; rw [h1, h2]; rfl]
      have hgt : ∀ w, (binOp .gtr tId (.string ⟨x.toArray⟩) (.string ⟨y.toArray⟩)).run Try.prog w = .ok (.bool true) w := fun w => by rw [← h2]; exact run_gtr x y w
      go_enter Try.func78, Try.ntmps78
      go_wp2_with fail
      refine (nanS_any _ _).mono ?_
      rintro e w1 ⟨rfl, rfl⟩
      go_wp2_with fail
      refine (nanS_any _ _).mono ?_
      rintro e w2 ⟨rfl, rfl⟩
      go_wp2
      go_ret
      exact ⟨rfl, rfl⟩
    | false =>
      rw [show cmpS x y = 0 from by unfold cmpS; rw [h1, h2]; rfl]
      have hgt : ∀ w, (binOp .gtr tId (.string ⟨x.toArray⟩) (.string ⟨y.toArray⟩)).run Try.prog w = .ok (.bool false) w := fun w => by rw [← h2]; exact run_gtr x y w
      go_enter Try.func78, Try.ntmps78
      go_wp2_with fail
      refine (nanS_any _ _).mono ?_
      rintro e w1 ⟨rfl, rfl⟩
      go_wp2_with fail
      refine (nanS_any _ _).mono ?_
      rintro e w2 ⟨rfl, rfl⟩
      go_wp2
      go_ret
      exact ⟨rfl, rfl⟩
/-- cmp.Or of two -/
theorem two_at {w : World} {b : Nat} {x y : Int} (h : Row w b 3 [.int .i64 x, .int .i64 y]) : w.cell? ⟨b, 0, none⟩ = some (.int .i64 x) ∧ w.cell? ⟨b, 1, none⟩ = some (.int .i64 y) := ⟨h.cell 0, h.cell 1⟩
set_option maxRecDepth 100000 in
set_option maxHeartbeats 2000000 in
theorem or_any (x y : Int) (b : Nat) (w : World) (h : Row w b 3 [.int .i64 x, .int .i64 y]) : Calls Try.prog 76 #[.slice (some ⟨b, 0, none⟩) 2 2] w fun e w' => e = .returned (.int .i64 (if x = 0 then y else x)) ∧ w' = w := by
  obtain ⟨c0, c1⟩ := two_at h
  clear h
  by_cases hx : x = 0
  · rw [if_pos hx]
    have d0 : (x != 0) = false := by rw [bne_eq_false_iff_eq]; exact hx
    by_cases hy : y = 0
    · have d1 : (y != 0) = false := by rw [bne_eq_false_iff_eq]; exact hy
      have HY := hide hy
      clear hx hy
      go_enter Try.func76, Try.ntmps76
      go_wp2
      refine wp_loop_rounds 3 ?_
      rw [rounds_succ]
      go_wp2
      rw [rounds_succ]
      go_wp2
      rw [rounds_succ]
      go_wp2
      go_ret
      exact ⟨by rw [HY.out]; rfl, rfl⟩
    · have d1 : (y != 0) = true := by rw [bne_iff_ne]; exact hy
      clear hx hy
      go_enter Try.func76, Try.ntmps76
      go_wp2
      refine wp_loop_rounds 2 ?_
      rw [rounds_succ]
      go_wp2
      rw [rounds_succ]
      go_wp2
      go_ret
      exact ⟨rfl, rfl⟩
  · rw [if_neg hx]
    have d0 : (x != 0) = true := by rw [bne_iff_ne]; exact hx
    clear hx
    go_enter Try.func76, Try.ntmps76
    go_wp2
    refine wp_loop_rounds 1 ?_
    rw [rounds_succ]
    go_wp2
    go_ret
    exact ⟨rfl, rfl⟩
set_option maxRecDepth 100000 in
set_option maxHeartbeats 4000000 in
/-- order.rank's compare -/
theorem pcompare_any {w0 : World} {In : World → (Nat → Prop) → Nat → List Nd → Prop} (C : Cd w0 In) {w : World} {S : Nat → Prop} {g : Nat} {D : List Nd} (hlow : Below w0.heap.size w0 w) (h : In w S g D) (hK : Okd D) (a b : Bs) (ha : a.length ≤ 50) (hb : b.length ≤ 50) :
    Calls Try.prog 57 #[.agg #[pt g], .string ⟨a.toArray⟩, .string ⟨b.toArray⟩] w fun y w' => y = .returned (.int .i64 (cmpR D a b)) ∧ Below w.heap.size w w' := by
  have HL := hide (show ∀ (x : Bs), x.length ≤ 50 → ∀ W, Below w.heap.size w W → Calls Try.prog 23 #[pt g, .string ⟨x.toArray⟩] W fun y w' => y = .returned (.int .i64 (level D x)) ∧ Hid (Below W.heap.size W w') from fun x hx W hW =>
    (C.level x (hlow.trans (hW.mono hlow.size)) (C.below h hW) hK hx).mono fun y w' ⟨q1, q2⟩ => ⟨q1, hide q2⟩)
  have HA := hide ha
  have HB := hide hb
  obtain ⟨la, hla⟩ : ∃ z, z = level D a := ⟨_, rfl⟩
  obtain ⟨lb, hlb⟩ : ∃ z, z = level D b := ⟨_, rfl⟩
  have HR := hide (show cmpR D a b = if cmpN la lb = 0 then cmpS a b else cmpN la lb from by rw [hla, hlb]; rfl)
  have HLa := HL.out a ha
  have HLb := HL.out b hb
  rw [← hla] at HLa
  rw [← hlb] at HLb
  have HLa := hide HLa
  have HLb := hide HLb
  clear hla hlb h hK hlow ha hb HL
  go_enter Try.func57, Try.ntmps57
  go_wp2
  obtain ⟨q, hq⟩ : ∃ q, q = w.heap.size := ⟨_, rfl⟩
  rw [← hq]
  have HQ := hide hq
  have hc : Below w.heap.size w (w.alloc (.cells #[pt g] tRk)).drew ∧ Row (w.alloc (.cells #[pt g] tRk)).drew q tRk [pt g] := ⟨((Below.refl _ w).alloc (Nat.le_refl _) _).drew, by rw [hq]; exact Row.fresh w tRk #[pt g]⟩
  clear hq
  refine Rg.wp_region_ord (fun w' => Below w.heap.size w w' ∧ Row w' q tRk [pt g]) [(0, true), (1, true), (2, true), (4, true), (5, true), (6, true), (9, true), (10, true), (3, false), (7, false), (8, false), (11, false), (12, false), (13, false), (14, true)] (by kernel_rfl) (by kernel_rfl) ?_
  simp only [Rg.pick, List.map_cons, List.map_nil, List.getD_cons_zero, List.getD_cons_succ]
  iterate 8 (refine Rg.ord_quiet (v := ?_) rfl (fun w' hS => ?_) hc ?_; rotate_left; (obtain ⟨s1, s2⟩ := hS; have s3 := s2.cell 0; go_simp; with_reducible rfl); simp only [Act.put, List.setIfInBounds_toArray, List.set_cons_succ, List.set_cons_zero])
  refine Rg.ord_loud (by rfl) (fun K hK => ?_)
  go_simp
  refine (HLa.out _ hc.1).mono ?_
  rintro e w3 ⟨rfl, hb3⟩
  have hc3 : Below w.heap.size w w3 ∧ Row w3 q tRk [pt g] := ⟨hc.1.trans (hb3.out.mono hc.1.size), hc.2.below hb3.out hc.2.lt⟩
  refine hK _ _ (fun _ => hc3) ?_
  clear hK K hb3 hc
  refine Rg.ord_loud (by rfl) (fun K hK => ?_)
  go_simp
  refine (HLb.out _ hc3.1).mono ?_
  rintro e w4 ⟨rfl, hb4⟩
  have hc4 : Below w.heap.size w w4 ∧ Row w4 q tRk [pt g] := ⟨hc3.1.trans (hb4.out.mono hc3.1.size), hc3.2.below hb4.out hc3.2.lt⟩
  refine hK _ _ (fun _ => hc4) ?_
  clear hK K hb4 hc3
  refine Rg.ord_loud (by rfl) (fun K hK => ?_)
  go_simp
  refine (compareN_any la lb w4).mono ?_
  rintro e w5 ⟨rfl, rfl⟩
  refine hK _ _ (fun _ => hc4) ?_
  clear hK K
  refine Rg.ord_loud (by rfl) (fun K hK => ?_)
  go_simp
  refine (compareS_any a b w5).mono ?_
  rintro e w6 ⟨rfl, rfl⟩
  refine hK _ _ (fun _ => hc4) ?_
  clear hK K
  refine Rg.ord_loud (by rfl) (fun K hK => ?_)
  go_simp
  have hc7 : Below w.heap.size w (w6.alloc (.cells #[.int .i64 (cmpN la lb), .int .i64 (cmpS a b)] 3)) ∧ Row (w6.alloc (.cells #[.int .i64 (cmpN la lb), .int .i64 (cmpS a b)] 3)) q tRk [pt g] := ⟨hc4.1.alloc hc4.1.size _, hc4.2.alloc _⟩
  have hor := or_any (cmpN la lb) (cmpS a b) w6.heap.size (w6.alloc (.cells #[.int .i64 (cmpN la lb), .int .i64 (cmpS a b)] 3)) (Row.fresh w6 3 #[.int .i64 (cmpN la lb), .int .i64 (cmpS a b)])
  rw [← HR.out] at hor
  refine hK _ _ (fun _ => hc7) ?_
  clear hK K hc4
  refine Rg.ord_loud (by rfl) (fun K hK => ?_)
  go_simp
  refine hor.mono ?_
  rintro e w8 ⟨rfl, rfl⟩
  refine hK _ _ (fun _ => hc7) ?_
  clear hK K hor
  have HF := hide hc7.1
  refine Rg.ord_quiet (v := ?_) rfl (fun w' hS => ?_) hc7 ?_
  rotate_left
  · go_simp
    with_reducible rfl
  simp only [Act.put, List.setIfInBounds_toArray, List.set_cons_succ, List.set_cons_zero]
  refine Rg.ord_nil ?_
  clear hc7
  go_wp2
  go_ret
  exact ⟨rfl, HF.out⟩
end Go.Proofs.Ytplmcpdlommmaaa.Oq
namespace Go.Proofs.Ytplmcpdlommmaaa.Oq
open Go Go.RowKit Kt Kg Lw Tr Dq

/-- what is looked at so far -/
structure Bl (D : List Nd) (l seen T : List Bs) : Prop where
  once : seen.Nodup
  on : ∀ a ∈ seen, a ∈ bel D l
  todo : ∀ a ∈ T, has D a = true → a ∈ bel D l
  start : ∀ x ∈ l, has D x = true → x ∈ seen ∨ x ∈ T
  next : ∀ a ∈ seen, ∀ p ∈ parents D a, p ∈ seen ∨ p ∈ T
  short : ∀ a ∈ T, a.length ≤ 50
section
variable {D : List Nd} {l seen T : List Bs} {x : Bs}
theorem Bl.first (hI : Inv D) (hs : ∀ x ∈ l, x.length ≤ 50) : Bl D l [] l :=
  ⟨List.nodup_nil, fun a h => (by cases h), fun a h ha => (bel_mem hI).2 ⟨a, h, above_self hI ha⟩, fun x hx _ => .inr hx, fun a h => (by cases h), hs⟩
theorem Bl.skip (hI : Inv D) (h : Bl D l seen (T ++ [x])) (hx : x ∈ seen ∨ has D x = false) : Bl D l seen T := by
  have key : ∀ a, has D a = true → (a ∈ seen ∨ a ∈ T ++ [x]) → a ∈ seen ∨ a ∈ T := fun a ha hm => by
    rcases hm with k | k
    · exact .inl k
    · rcases List.mem_append.1 k with k | k
      · exact .inr k
      · rw [List.mem_singleton.1 k] at ha ⊢
        rcases hx with z | z
        · exact .inl z
        · rw [z] at ha; cases ha
  refine ⟨h.once, h.on, fun a ha => h.todo a (List.mem_append_left _ ha), fun a ha ho => key a ho (h.start a ha ho), fun a ha p hp => ?_, fun a ha => h.short a (List.mem_append_left _ ha)⟩
  rcases h.next a ha p hp with k | k
  · exact .inl k
  · rcases List.mem_append.1 k with k | k
    · exact .inr k
    · obtain rfl := List.mem_singleton.1 k
      rcases hx with z | z
      · exact .inl z
      · have := (parents_in hI hp).1
        rw [this] at z; cases z
theorem Bl.more (hI : Inv D) (hK : ∀ p ∈ parents D x, p.length ≤ 50) (h : Bl D l seen (T ++ [x])) (hx : x ∉ seen) (ho : has D x = true) : Bl D l (x :: seen) (T ++ parents D x) := by
  have hxb := h.todo x (by simp) ho
  refine ⟨List.nodup_cons.2 ⟨hx, h.once⟩, fun a ha => ?_, fun a ha hb => ?_, fun a ha hb => ?_, fun a ha p hp => ?_, fun a ha => ?_⟩
  · rcases List.mem_cons.1 ha with rfl | ha
    · exact hxb
    · exact h.on a ha
  · rcases List.mem_append.1 ha with k | k
    · exact h.todo a (List.mem_append_left _ k) hb
    · exact bel_down hI hxb k
  · rcases h.start a ha hb with k | k
    · exact .inl (List.mem_cons_of_mem _ k)
    · rcases List.mem_append.1 k with k | k
      · exact .inr (List.mem_append_left _ k)
      · rw [List.mem_singleton.1 k]; exact .inl List.mem_cons_self
  · rcases List.mem_cons.1 ha with rfl | ha
    · exact .inr (List.mem_append_right _ hp)
    · rcases h.next a ha p hp with k | k
      · exact .inl (List.mem_cons_of_mem _ k)
      · rcases List.mem_append.1 k with k | k
        · exact .inr (List.mem_append_left _ k)
        · rw [List.mem_singleton.1 k]; exact .inl List.mem_cons_self
  · rcases List.mem_append.1 ha with k | k
    · exact h.short a (List.mem_append_left _ k)
    · exact hK a k
theorem Bl.over (hI : Inv D) (h : Bl D l seen []) (a : Bs) : a ∈ seen ↔ a ∈ bel D l := by
  refine ⟨h.on a, fun ha => ?_⟩
  obtain ⟨x, hx, hab⟩ := (bel_mem hI).1 ha
  obtain ⟨hox, ho⟩ := (above_iff hI).1 hab
  have hxs : x ∈ seen := (h.start x hx hox).elim id fun k => by cases k
  clear hab ha hx hox
  induction ho with
  | self => exact hxs
  | step hp _ ih => exact ih ((h.next _ hxs _ hp).elim id fun k => by cases k)
theorem Bl.few (h : Bl D l seen T) : seen.length ≤ D.length := Nat.le_trans (len_le h.once h.on) (Nat.le_trans (bel_len D l) (all_len D true))
end
theorem off_map {w : World} {q B : Nat} {f : Bs → Option Value} (hm : Mp w q f) {v : Value} {l : List Bs} (ho : OwT w B tId v l) : v.ownBlock ≠ some q := by
  obtain ⟨es, cl, hb, _⟩ := hm
  rcases ho.2 with ⟨rfl, _⟩ | ⟨g, cap, cur, rfl, _, hg, _⟩
  · intro e; cases e
  · intro e
    have e : some g = some q := e
    injection e with e
    subst e
    rw [hb] at hg
    cases hg
theorem abm_cat {w wr w2 : World} {q : Nat} {seen T r : List Bs} {v v' : Value} (h : AbM w q wr seen T v) (hown : OwT w2 w.heap.size tId v' (T ++ r)) (hg : wr.grownBy w2 v.ownBlock) : AbM w q w2 seen (T ++ r) v' := by
  have hq := h.mp.lt
  have hm := h.mp.move (hg.block q hq fun e => h.off e.symm)
  exact ⟨h.low.grown hg h.low.size fun k e => (World.ownsRow.lt h.own k e).1, hm, hown, off_map hm hown, h.lo⟩
def lenB : Value → Nat
  | .slice _ n _ => n
  | _ => 0
set_option maxRecDepth 100000 in
set_option maxHeartbeats 4000000 in
theorem pbelow_any {w0 : World} {In : World → (Nat → Prop) → Nat → List Nd → Prop} (C : Cd w0 In) {w : World} {S : Nat → Prop} {g : Nat} {D : List Nd} (hlow : Below w0.heap.size w0 w) (h : In w S g D) (hK : Okd D)
    (l : List Bs) (A : Option Addr) (c : Nat) (Pb : Nat → Prop) (hs : Vs w Pb A c (texts l)) (hl : l.length ≤ 40) (hx : ∀ x ∈ l, x.length ≤ 50) :
    Calls Try.prog 58 #[pt g, .slice A l.length c] w fun y w' => ∃ q, y = .returned (.map (some q)) ∧ Mp w' q (fun k => if k ∈ bel D l then some unV else none) ∧ w.heap.size ≤ q ∧ Below w.heap.size w w' := by
  have HH := hide (show ∀ (x : Bs), x.length ≤ 50 → ∀ W, Below w.heap.size w W → Calls Try.prog 21 #[pt g, .string ⟨x.toArray⟩] W fun y w' => y = .returned (.bool (has D x)) ∧ Hid (Below W.heap.size W w') from fun x hx W hW =>
    (C.has x (hlow.trans (hW.mono hlow.size)) (C.below h hW) hK hx).mono fun y w' ⟨q1, q2⟩ => ⟨q1, hide q2⟩)
  have HP := hide (show ∀ (x : Bs), x.length ≤ 50 → ∀ W, Below w.heap.size w W → Calls Try.prog 25 #[pt g, .string ⟨x.toArray⟩] W fun y w' => ∃ A1 c1, y = .returned (.slice A1 (parents D x).length c1) ∧ Hid (Vs w' (fun b => b < w'.heap.size) A1 c1 (texts (parents D x))) ∧ Hid (Below W.heap.size W w') from fun x hx W hW =>
    (C.parents x (hlow.trans (hW.mono hlow.size)) (C.below h hW) hK hx).mono fun y w' ⟨v, q1, q2, q3⟩ => by
      obtain ⟨A1, c1, e, hv, _⟩ := own_vs q2
      rw [e] at q1
      exact ⟨A1, c1, q1, hide hv, hide q3⟩)
  have HPl := hide (show ∀ x : Bs, (parents D x).length ≤ 10 ∧ ∀ p ∈ parents D x, p.length ≤ 50 from fun x => by
    unfold parents
    cases hg : get D x with
    | none => exact ⟨Nat.zero_le _, fun p hp => by cases hp⟩
    | some n =>
      have := hK.ids n (get_some hg).1
      simp only
      split
      · exact ⟨this.2.1, this.2.2⟩
      · exact ⟨Nat.zero_le _, fun p hp => by cases hp⟩)
  have HI := hide hK.inv
  have HFew := hide hK.few
  have HB1 := hide (Bl.first (l := l) hK.inv hx)
  have HL := hide hl
  -- the map
  obtain ⟨q, hq⟩ : ∃ q, q = w.heap.size := ⟨_, rfl⟩
  obtain ⟨w3, hw3⟩ : ∃ z, z = w.alloc (.map #[] 0) := ⟨_, rfl⟩
  have hmk : (Instr.makeMap tMH none).run Try.prog w = .ok (.map (some q)) w3 := by rw [run_makeMap, hq, hw3]
  have hM3 : AbM w q w3 [] [] (.slice none 0 0) := ⟨by rw [hw3]; exact (Below.refl _ w).alloc (Nat.le_refl _) _, by rw [hw3, hq]; exact (Mp.made w).congr fun k => by simp, OwT.nil _ _ _, (fun (e : Value.ownBlock (.slice none 0 0) = some q) => (by cases e)), by rw [hq]; exact Nat.le_refl _⟩
  have hcl := clone_ids (vs_move (vs_low hs) fun b hb => hM3.low.block b hb) (by omega)
  have HM3 := hide hM3
  have HCl := hide hcl
  have HQ := hide (show w.heap.size ≤ q from by rw [hq]; exact Nat.le_refl _)
  clear hcl hM3 hw3 hq hs hl hx h hK hlow
  go_enter Try.func58, Try.ntmps58
  go_wp2_with fail
  refine HCl.out.mono ?_
  rintro e w4 ⟨v4, rfl, ho4, hb4⟩
  have hM4 := HM3.out.grow hb4
  obtain ⟨A4, c4, rfl, _⟩ := own_vs ho4
  have HM4 := hide (show AbM w q w4 [] l (.slice A4 l.length c4) from ⟨hM4.low, hM4.mp, owt_base ho4 HM3.out.low.size, off_map hM4.mp ho4, hM4.lo⟩)
  clear hM4 ho4 hb4 HCl HM3 hmk
  go_wp2
  go_loopw [6] (fun v6 wr => ∃ seen T A c, v6 = .slice A T.length c ∧ Hid (AbM w q wr seen T (.slice A T.length c)) ∧ Hid (Bl D l seen T) ∧ 11 * (41 - seen.length) + T.length ≤ 1000) (fun v6 wr => 11 * (41 - mapCnt wr q) + lenB v6)
  case atStart => exact ⟨[], l, _, _, rfl, by show Hid _; exact HM4, by show Hid _; exact HB1, by have := HL.out; simp; omega⟩
  case round =>
    clear HM4 HB1
    obtain ⟨seen, T, A, c, rfl, HM, HB, hbd⟩ := hrel
    rcases T.eq_nil_or_concat with rfl | ⟨T, x, rfl⟩
    · have HF := hide (And.intro (HM.out.mp.congr (f' := fun k => if k ∈ bel D l then some unV else none) fun k => by
        by_cases e : k ∈ seen
        · rw [if_pos e, if_pos ((HB.out.over HI.out k).1 e)]
        · rw [if_neg e, if_neg fun z => e ((HB.out.over HI.out k).2 z)]) HM.out.low)
      clear hbd
      go_wp2
      go_ret
      exact ⟨q, rfl, HF.out.1, HQ.out, HF.out.2⟩
    · rw [List.concat_eq_append] at *
      obtain ⟨m, hm⟩ : ∃ m, m = T.length := ⟨_, rfl⟩
      have hm1 : (T ++ [x]).length = m + 1 := by rw [List.length_append, hm]; rfl
      have hown := HM.out.own
      obtain ⟨ga, rfl⟩ : ∃ g, A = some ⟨g, 0, none⟩ := by
        rcases hown.2 with ⟨h1, h2⟩ | ⟨g, _, _, h1, _⟩
        · omega
        · injection h1 with h1; exact ⟨g, h1⟩
      have hlast := (rdy_cell hown (k := m) (by omega)).1
      rw [show (T ++ [x]).getD m [] = x from by rw [hm, List.getD_eq_getElem?_getD]; simp] at hlast
      have hmc : m ≤ c := by obtain ⟨_, _, k3, _⟩ := row_holds hown; omega
      have hcut := OwT.cut hown (m := m) (by omega)
      rw [show (T ++ [x]).take m = T from by rw [hm]; simp, ← hm] at hcut
      have HM2 := hide (show AbM w q wr seen T (.slice (some ⟨ga, 0, none⟩) m c) from ⟨HM.out.low, HM.out.mp, hcut, HM.out.off, HM.out.lo⟩)
      have e1 : ((m + 1 : Nat) : Int) - 1 = ((m : Nat) : Int) := by omega
      have hcnt := HM.out.cnt HB.out.once
      have hlk := HM.out.look x
      have hsx := HB.out.short x (by simp)
      rw [hm1]
      have hmb : m ≤ 1000 := by rw [hm1] at hbd; omega
      have HMl := hide hm
      have HBd := hide (show 11 * (41 - seen.length) + (m + 1) ≤ 1000 from by rw [← hm1]; exact hbd)
      have HCnt := hide hcnt
      clear hm hm1 hown hcut hcnt hbd
      by_cases hxs : x ∈ seen
      · rw [decide_eq_true hxs] at hlk
        have HB2 := hide (HB.out.skip HI.out (.inl hxs))
        have HM4 := hide (HM2.out.grow ((Below.refl _ wr).alloc (Nat.le_refl _) (.cells #[] 70)))
        have HC4 := hide (HM4.out.cnt HB2.out.once)
        clear hxs
        go_wp2
        refine ⟨⟨seen, T, _, c, by rw [HMl.out], by show Hid _; rw [← HMl.out]; exact HM4, by show Hid _; exact HB2, by rw [← HMl.out]; have := HBd.out; omega⟩, ?_⟩
        rw [HC4.out, HCnt.out]
        show 11 * (41 - seen.length) + m < 11 * (41 - seen.length) + (m + 1)
        omega
      · rw [decide_eq_false hxs] at hlk
        have HXs := hide hxs
        have hM4 := HM2.out.grow ((Below.refl _ wr).alloc (Nat.le_refl _) (.cells #[] 70))
        have HHx := hide (HH.out x hsx _ hM4.low)
        have HM4 := hide hM4
        clear hxs hM4
        go_wp2_with fail
        refine HHx.out.mono ?_
        rintro e w5 ⟨rfl, hb5⟩
        have HM5 := hide (HM4.out.grow hb5.out)
        clear hb5 HHx HM4 hlk
        cases hhx : has D x with
        | false =>
          have HB2 := hide (HB.out.skip HI.out (.inr hhx))
          have HC5 := hide (HM5.out.cnt HB2.out.once)
          clear hhx
          go_wp2
          refine ⟨⟨seen, T, _, c, by rw [HMl.out], by show Hid _; rw [← HMl.out]; exact HM5, by show Hid _; exact HB2, by rw [← HMl.out]; have := HBd.out; omega⟩, ?_⟩
          rw [HC5.out, HCnt.out]
          show 11 * (41 - seen.length) + m < 11 * (41 - seen.length) + (m + 1)
          omega
        | true =>
          have HB2 := hide (HB.out.more HI.out (HPl.out x).2 HXs.out hhx)
          obtain ⟨o2, hup2, hM6⟩ := HM5.out.put x
          obtain ⟨w6, hw6⟩ : ∃ z, z = w5.putObj q o2 := ⟨_, rfl⟩
          rw [← hw6] at hup2 hM6
          have HPx := hide (HP.out x hsx w6 hM6.low)
          have HM6 := hide hM6
          obtain ⟨np, hnp⟩ : ∃ z, z = (parents D x).length := ⟨_, rfl⟩
          have hnp10 : np ≤ 10 := by rw [hnp]; exact (HPl.out x).1
          rw [← hnp] at HPx
          have HNp := hide hnp
          clear hhx hM6 hw6 hnp
          go_wp2_with fail
          refine HPx.out.mono ?_
          rintro e w7 ⟨A7, c7, rfl, hv7, hb7⟩
          have HM7 := hide (HM6.out.grow hb7.out)
          have HV7 := hv7
          clear hb7 hv7 HPx HM6
          have hlo7 : T.length + (parents D x).length ≤ 4398046511104 := by rw [← HMl.out, ← HNp.out]; omega
          have HLo7 := hide hlo7
          have hx7 : ∀ (z : Value), z = .slice A7 np c7 → z = .slice A7 (parents D x).length c7 := fun z h => by rw [h, HNp.out]
          have HX7 := hide hx7
          clear hlo7 hx7
          go_wp2_with (at_builtin; go_loud (refine wpList_catT rfl (.tmp 43) (.tmp 46) 31 rfl Try.underlying31 infoId w.heap.size w _ T (parents D x) _ A7 c7 rfl (HX7.out _ rfl) HM7.out.own HV7.out HLo7.out HM7.out.low HM7.out.low.size ?_; intro v8 w8 hown8 _ hg8; have HM8 := hide (abm_cat HM7.out hown8 hg8); have hv8 := own_vs hown8; obtain ⟨A8, c8, rfl, _⟩ := hv8; clear hown8 hg8))
          have hl8 : (T ++ parents D x).length = m + np := by rw [List.length_append, HMl.out, HNp.out]
          have HC8 := hide (HM8.out.cnt HB2.out.once)
          have hfew := HB2.out.few
          rw [List.length_cons] at hfew
          have hf2 := HFew.out
          refine ⟨⟨x :: seen, T ++ parents D x, A8, c8, by rw [List.length_append], by show Hid _; exact HM8, by show Hid _; exact HB2, by rw [List.length_cons, hl8]; have := HBd.out; omega⟩, ?_⟩
          rw [HC8.out, HCnt.out]
          show 11 * (41 - (x :: seen).length) + (T.length + (parents D x).length) < 11 * (41 - seen.length) + (m + 1)
          rw [List.length_cons, HMl.out.symm, HNp.out.symm]
          omega
end Go.Proofs.Ytplmcpdlommmaaa.Oq
