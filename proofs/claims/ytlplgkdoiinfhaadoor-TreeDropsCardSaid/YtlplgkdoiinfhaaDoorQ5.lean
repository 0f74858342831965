/-
  The reference's Less: is a text less than another one?
-/
import Derived.BigQuiet
import Derived.Test.YtlplgkdoiinfhaaDoorQ4
import Derived.Test.YtlplgkdoiinfhaaDoorQ1
namespace Go.Proofs.YtlplgkdoiinfhaaDoor.Lx
open Go Go.RowKit Kt Lw Li

theorem get_at9 (l : List UInt8) (k : Nat) (h : k < (ByteArray.mk l.toArray).size) : (ByteArray.mk l.toArray)[k] = l.getD k 0 := by
  have h' : k < l.length := h
  have : (ByteArray.mk l.toArray)[k] = l[k]'h' := rfl
  rw [this]
  simp [List.getElem?_eq_getElem h']
theorem rless_cons (x y : UInt8) (p q : List UInt8) : Op.bytesLess (x :: p) (y :: q) = (decide (x < y) || (x == y && Op.bytesLess p q)) := rfl
theorem rless_end {p q : List UInt8} (h : p = [] ∨ q = []) : Op.bytesLess p q = decide (p.length < q.length) := by
  cases p with
  | nil => cases q <;> simp [Op.bytesLess]
  | cons x p =>
    have hq : q = [] := by simpa using h
    subst hq
    simp [Op.bytesLess]
theorem rdrop_getD (a : List UInt8) (k : Nat) (h : k < a.length) : a.drop k = a.getD k 0 :: a.drop (k + 1) := by
  rw [List.drop_eq_getElem_cons h]; simp [List.getElem?_eq_getElem h]
set_option maxRecDepth 100000 in
set_option maxHeartbeats 2000000 in
theorem rless_any (a b : List UInt8) (w : World) (ha : a.length ≤ 100000) (_hb : b.length ≤ 100000) :
    Calls Tryd.prog 36 #[.string ⟨a.toArray⟩, .string ⟨b.toArray⟩] w fun e w' => e = .returned (.bool (Op.bytesLess a b)) ∧ Below w.heap.size w w' := by
  go_enter Tryd.func36, Tryd.ntmps36
  go_wp2
  go_loopw [5] (fun i wr => ∃ k : Nat, k ≤ a.length ∧ k ≤ b.length ∧ i = .int .i64 k ∧ Hid (Op.bytesLess a b = Op.bytesLess (a.drop k) (b.drop k)) ∧ Below w.heap.size w wr) (fun i _ => a.length - (intOf i).toNat)
  case atStart => exact ⟨0, Nat.zero_le _, Nat.zero_le _, rfl, by show Hid _; exact hide rfl, Below.refl _ _⟩
  case round =>
    obtain ⟨k, hka, hkb, rfl, HL, hbw⟩ := hrel
    have Hb := hide hbw
    clear hbw
    by_cases hlt : k < a.length ∧ k < b.length
    · obtain ⟨h1, h2⟩ := hlt
      have e1 := get_at9 a k (by show k < a.length; exact h1)
      have e2 := get_at9 b k (by show k < b.length; exact h2)
      have hL := HL.out
      rw [rdrop_getD a k h1, rdrop_getD b k h2, rless_cons] at hL
      generalize a.getD k 0 = x at *
      generalize b.getD k 0 = y at *
      clear HL
      by_cases hxy : x = y
      · subst hxy
        have HL2 := hide (show Op.bytesLess a b = Op.bytesLess (a.drop (k + 1)) (b.drop (k + 1)) by rw [hL]; simp)
        clear hL
        go_wp2
        go_quiet (fail)
        go_wp2
        exact ⟨⟨k + 1, by omega, by omega, by go_num, HL2, below_drewN Hb.out _⟩, by simp [intOf]; omega⟩
      · have hne : ((x.toNat : Int) != (y.toNat : Int)) = true := by
          rw [bne_iff_ne]
          intro h
          exact hxy (UInt8.toNat_inj.1 (by omega))
        have HL2 := hide (show Op.bytesLess a b = decide (x.toNat < y.toNat) by
          rw [hL, show (x == y) = false by simpa using hxy]
          simp only [Bool.false_and, Bool.or_false]
          rw [decide_eq_decide, UInt8.lt_iff_toNat_lt])
        clear hL hxy
        go_wp2
        go_quiet (fail)
        go_wp2
        go_quiet (fail)
        go_wp2
        go_ret
        exact ⟨by rw [HL2.out]; rfl, below_drewN (below_drewN Hb.out _) _⟩
    · have hor : a.drop k = [] ∨ b.drop k = [] := by
        rw [List.drop_eq_nil_iff, List.drop_eq_nil_iff]; omega
      have HL2 := hide (show Op.bytesLess a b = decide (a.length < b.length) by
        rw [HL.out, rless_end hor, decide_eq_decide, List.length_drop, List.length_drop]
        omega)
      clear HL hor
      by_cases h1 : k < a.length
      · have h2 : ¬ k < b.length := fun h => hlt ⟨h1, h⟩
        have d1 : decide ((k : Int) < (a.length : Int)) = true := decide_eq_true (by omega)
        have d2 : decide ((k : Int) < (b.length : Int)) = false := decide_eq_false (by omega)
        clear hlt
        go_wp2
        go_ret
        exact ⟨by rw [HL2.out]; rfl, Hb.out⟩
      · have d1 : decide ((k : Int) < (a.length : Int)) = false := decide_eq_false (by omega)
        clear hlt
        go_wp2
        go_ret
        exact ⟨by rw [HL2.out]; rfl, Hb.out⟩
end Go.Proofs.YtlplgkdoiinfhaaDoor.Lx
namespace Go.Proofs.YtlplgkdoiinfhaaDoor.Tr
open Go Go.RowKit Kt Lw Li Lx

theorem cut_byte (s : List UInt8) (k : Nat) (h : k < s.length) : (ByteArray.mk s.toArray).extract k (k + 1) = ⟨[s.getD k 0].toArray⟩ := by
  have e : s.getD k 0 = s[k] := by simp [List.getElem?_eq_getElem h]
  have e2 : (s.drop k).take 1 = [s[k]] := by rw [List.drop_eq_getElem_cons h]; rfl
  apply ByteArray.ext
  rw [e, ByteArray.data_extract]
  apply Array.ext'
  simp [e2]
theorem app_byte (x : Bs) (c : UInt8) : ByteArray.mk x.toArray ++ ByteArray.mk [c].toArray = ⟨(x ++ [c]).toArray⟩ := app_txt x [c]
theorem part_no1 : part [] = false := by decide
theorem part_no2 : part [46] = false := by decide
theorem part_no3 : part [46, 46] = false := by decide
theorem part_yes {q : Bs} (h1 : ¬ q = []) (h2 : ¬ q = [46]) (h3 : ¬ q = [46, 46]) : part q = true := by simp [part, h1, h2, h3]
set_option maxRecDepth 100000 in
set_option maxHeartbeats 4000000 in
theorem rpath_any (p : Bs) (w : World) (hl : p.length ≤ 9223372036854775807) :
    Calls Tryd.prog 15 #[.string ⟨p.toArray⟩] w fun y w' => y = .returned (.bool (can p)) ∧ w' = w := by
  by_cases hlong : 200 < p.length
  · have Hc := hide (show can p = false by unfold can; rw [decide_eq_false (by omega)]; rfl)
    have d0 : decide (200 < (p.length : Int)) = true := decide_eq_true (by omega)
    have d1 : decide (200 < p.length) = true := decide_eq_true hlong
    clear hlong
    go_enter Tryd.func15, Tryd.ntmps15
    go_wp2
    go_ret
    exact ⟨by rw [Hc.out]; rfl, rfl⟩
  · have Hc := hide (show can p = rest [] p by unfold can; rw [decide_eq_true (by omega), Bool.true_and])
    have d0 : decide (200 < (p.length : Int)) = false := decide_eq_false (by omega)
    have d1 : decide (200 < p.length) = false := decide_eq_false hlong
    obtain ⟨n, hn⟩ : ∃ n, n = p.length := ⟨_, rfl⟩
    have hn2 : n ≤ 200 := by omega
    have Hn := hide hn
    clear hl
    go_enter Tryd.func15, Tryd.ntmps15
    go_wp2
    go_loopw [3, 4] (fun s i wr => ∃ (k : Nat) (q : Bs), k ≤ n + 1 ∧ i = .int .i64 k ∧ s = .string ⟨q.toArray⟩ ∧ Hid (q.length ≤ k ∧ (k ≤ n → rest [] p = rest q (p.drop k)) ∧ (k = n + 1 → rest [] p = true)) ∧ w = wr) (fun _ i _ => n + 1 - (intOf i).toNat)
    case atStart => exact ⟨0, [], by omega, rfl, rfl, by show Hid _; exact hide ⟨Nat.le_refl _, fun _ => rfl, fun h => by omega⟩, rfl⟩
    case round =>
      obtain ⟨k, q, hk, rfl, rfl, HR, rfl⟩ := hrel
      have hq : q.length ≤ k := HR.out.1
      rw [← hn] at d0 d1
      by_cases hend : k = n + 1
      · have Hr := hide (HR.out.2.2 hend)
        have dk : decide ((k : Int) ≤ (p.length : Int)) = false := decide_eq_false (by omega)
        have dk2 : decide (k ≤ p.length) = false := decide_eq_false (by omega)
        clear HR hend hn
        go_wp2
        go_ret
        exact ⟨by rw [Hc.out, Hr.out]; rfl, rfl⟩
      · have dk : decide ((k : Int) ≤ (p.length : Int)) = true := decide_eq_true (by omega)
        have dk2 : decide (k ≤ p.length) = true := decide_eq_true (by omega)
        by_cases hkn : k = n
        · have hr := HR.out.2.1 (by omega)
          rw [hkn, hn, List.drop_length, rest] at hr
          have dz : ((k : Int) == (p.length : Int)) = true := by rw [beq_iff_eq]; omega
          have dz2 : (k == p.length) = true := by rw [beq_iff_eq]; omega
          have hkp : k = p.length := by omega
          clear hend hn HR
          by_cases g0 : q = []
          · subst g0
            rw [part_no1] at hr
            have Hr := hide hr
            clear hr
            go_wp2
            go_ret
            exact ⟨by rw [Hc.out, Hr.out]; rfl, rfl⟩
          have b0 : (q == []) = false := by simpa using g0
          have b0e : q.isEmpty = false := by simpa using g0
          by_cases g1 : q = [46]
          · subst g1
            rw [part_no2] at hr
            have Hr := hide hr
            clear hr
            go_wp2
            go_ret
            exact ⟨by rw [Hc.out, Hr.out]; rfl, rfl⟩
          have b1 : (q == [46]) = false := by simpa using g1
          by_cases g2 : q = [46, 46]
          · subst g2
            rw [part_no3] at hr
            have Hr := hide hr
            clear hr
            go_wp2
            go_ret
            exact ⟨by rw [Hc.out, Hr.out]; rfl, rfl⟩
          have b2 : (q == [46, 46]) = false := by simpa using g2
          rw [part_yes g0 g1 g2] at hr
          have Hr := hide hr
          clear hr
          go_wp2
          exact ⟨⟨k + 1, [], by omega, by go_num, rfl, by show Hid _; exact hide ⟨by simp, fun h => by omega, fun _ => Hr.out⟩, trivial⟩, by simp [intOf]; omega⟩
        · have hkl : k < p.length := by omega
          have hr := HR.out.2.1 (by omega)
          have eg := get_at9 p k hkl
          have ec := cut_byte p k hkl
          rw [rdrop_getD p k hkl, rest] at hr
          have dz : ((k : Int) == (p.length : Int)) = false := by rw [beq_eq_false_iff_ne]; omega
          have dz2 : (k == p.length) = false := by rw [beq_eq_false_iff_ne]; omega
          have hkp : ¬ k = p.length := by omega
          generalize p.getD k 0 = c at *
          clear hend HR
          by_cases h47 : c = 47
          · rw [if_pos h47] at hr
            have c47 : ((c.toNat : Int) == 47) = true := by rw [h47]; rfl
            have c47n : (c.toNat == 47) = true := by rw [h47]; rfl
            clear h47 hn
            by_cases g0 : q = []
            · subst g0
              rw [part_no1, Bool.false_and] at hr
              have Hr := hide hr
              clear hr
              go_wp2
              go_ret
              exact ⟨by rw [Hc.out, Hr.out]; rfl, rfl⟩
            have b0 : (q == []) = false := by simpa using g0
            have b0e : q.isEmpty = false := by simpa using g0
            by_cases g1 : q = [46]
            · subst g1
              rw [part_no2, Bool.false_and] at hr
              have Hr := hide hr
              clear hr
              go_wp2
              go_ret
              exact ⟨by rw [Hc.out, Hr.out]; rfl, rfl⟩
            have b1 : (q == [46]) = false := by simpa using g1
            by_cases g2 : q = [46, 46]
            · subst g2
              rw [part_no3, Bool.false_and] at hr
              have Hr := hide hr
              clear hr
              go_wp2
              go_ret
              exact ⟨by rw [Hc.out, Hr.out]; rfl, rfl⟩
            have b2 : (q == [46, 46]) = false := by simpa using g2
            rw [part_yes g0 g1 g2, Bool.true_and] at hr
            have Hr := hide hr
            clear hr
            go_wp2
            exact ⟨⟨k + 1, [], by have := Hn.out; omega, by go_num, rfl, by show Hid _; exact hide ⟨by simp, fun _ => Hr.out, fun h => by have := Hn.out; omega⟩, trivial⟩, by have := Hn.out; simp [intOf]; omega⟩
          · rw [if_neg h47] at hr
            have cn : ¬ c.toNat = 47 := fun h => h47 (UInt8.toNat_inj.1 h)
            have c47 : ((c.toNat : Int) == 47) = false := by rw [beq_eq_false_iff_ne]; omega
            have c47n : (c.toNat == 47) = false := by rw [beq_eq_false_iff_ne]; omega
            by_cases h32 : c.toNat < 32
            · rw [show decide (c < 32) = true from decide_eq_true (by rw [UInt8.lt_iff_toNat_lt]; exact h32)] at hr
              have Hr := hide (show rest [] p = false by rw [hr]; simp)
              have c32 : decide ((c.toNat : Int) < 32) = true := decide_eq_true (by omega)
              have c32n : decide (c.toNat < 32) = true := decide_eq_true h32
              clear hr hn h47
              go_wp2
              go_ret
              exact ⟨by rw [Hc.out, Hr.out]; rfl, rfl⟩
            · rw [show decide (c < 32) = false from decide_eq_false (by rw [UInt8.lt_iff_toNat_lt]; exact h32)] at hr
              have c32 : decide ((c.toNat : Int) < 32) = false := decide_eq_false (by omega)
              have c32n : decide (c.toNat < 32) = false := decide_eq_false h32
              by_cases h127 : c.toNat = 127
              · have hce : c = 127 := UInt8.toNat_inj.1 h127
                have Hr := hide (show rest [] p = false by rw [hr, hce]; simp)
                have c7 : ((c.toNat : Int) == 127) = true := by rw [beq_iff_eq]; omega
                have c7n : (c.toNat == 127) = true := by rw [beq_iff_eq]; exact h127
                clear hr hn h47 h127 hce
                go_wp2
                go_ret
                exact ⟨by rw [Hc.out, Hr.out]; rfl, rfl⟩
              · have Hr := hide (show rest [] p = rest (q ++ [c]) (p.drop (k + 1)) by
                  rw [hr, show (c == 127) = false by rw [beq_eq_false_iff_ne]; exact fun h => h127 (by rw [h]; rfl)]; simp)
                have c7 : ((c.toNat : Int) == 127) = false := by rw [beq_eq_false_iff_ne]; omega
                have c7n : (c.toNat == 127) = false := by rw [beq_eq_false_iff_ne]; exact h127
                have ea := app_byte q c
                have hx : ¬ 9223372036854775807 < q.length + 1 := by omega
                have hk1 : (k : Int) + 1 ≤ (p.length : Int) := by omega
                have hk2 : (k : Int) ≤ (k : Int) + 1 := by omega
                have hk3 : 0 ≤ (k : Int) + 1 := by omega
                have hk4 : ((k : Int) + 1).toNat = k + 1 := by omega
                clear hr hn h47 h127
                go_wp2
                exact ⟨⟨k + 1, q ++ [c], by have := Hn.out; omega, by go_num, rfl, by show Hid _; exact hide ⟨by simp; omega, fun _ => Hr.out, fun h => by have := Hn.out; omega⟩, trivial⟩, by have := Hn.out; simp [intOf]; omega⟩
end Go.Proofs.YtlplgkdoiinfhaaDoor.Tr
namespace Go.Proofs.YtlplgkdoiinfhaaDoor.Tr
open Go Go.RowKit Kt Lw Li Lx Df

theorem agr {w w' : World} {b j : Nat} {v : Value} (h : w.cell? ⟨b, j, none⟩ = some v) (hb : Below w.heap.size w w') : w'.cell? ⟨b, j, none⟩ = some v :=
  (World.cell?_of_block (a := ⟨b, j, none⟩) (hb.block b (World.block_lt_of_cell? w ⟨b, j, none⟩ h))).trans h
/-- the path ahead of file k -/
def ahead (t : List Fl) (k : Nat) : Option Bs := if k = 0 then none else (t[k - 1]?).map (·.path)
theorem go_step {t : List Fl} {k : Nat} {f : Fl} (h : t[k]? = some f) (hd : t.drop k = f :: t.drop (k + 1)) : go (ahead t k) (t.drop k) = (can f.path && decide (f.text.length ≤ 65536) && above (ahead t k) f.path && go (ahead t (k + 1)) (t.drop (k + 1))) := by
  rw [hd, go]
  have e : ahead t (k + 1) = some f.path := by unfold ahead; rw [if_neg (by omega), Nat.add_sub_cancel, h]; rfl
  rw [e]
set_option maxRecDepth 100000 in
set_option maxHeartbeats 4000000 in
theorem rright_any (t : List Fl) (A : Option Addr) (c : Nat) (w : World) (hs : Fls w A c t) (hn : t.length ≤ 100000) (hm : ∀ f ∈ t, f.path.length ≤ 9223372036854775807) :
    Calls Tryd.prog 17 #[.slice A t.length c] w fun y w' => y = .returned (.bool (right t)) ∧ Below w.heap.size w w' := by
  have Hs := hide hs
  have Hm := hide hm
  obtain ⟨N, hN⟩ : ∃ N, N = t.length := ⟨_, rfl⟩
  rw [← hN] at hn ⊢
  have HN := hide hN
  have HR0 := hide (show right t = (go none t && decide ((N : Int) ≤ 1000)) by rw [hN]; unfold right; congr 1; rw [decide_eq_decide]; omega)
  clear hs hm hN
  go_enter Tryd.func17, Tryd.ntmps17
  go_wp2
  go_loopw [3] (fun i wr => ∃ k : Nat, k ≤ N ∧ i = .int .i64 k ∧ Hid (go none t = go (ahead t k) (t.drop k) ∧ (0 < k → ∃ g, t[k - 1]? = some g ∧ g.path.length ≤ 200)) ∧ Below w.heap.size w wr) (fun i _ => N - (intOf i).toNat)
  case atStart => exact ⟨0, Nat.zero_le _, rfl, by show Hid _; exact hide ⟨rfl, fun h => absurd h (by omega)⟩, Below.refl _ _⟩
  case round =>
    obtain ⟨k, hk, rfl, HR, hb⟩ := hrel
    have Hb := hide hb
    clear hb
    by_cases hlt : k < N
    · obtain ⟨b, o, f, rfl, hbl, hf, hd, d0, d1⟩ := Hs.out.at (w' := wr) Hb.out (k := k) (by have := HN.out; omega)
      have hstep := go_step hf hd
      have HP := hide (fun w => rpath_any f.path w (Hm.out f (List.mem_of_getElem? hf)))
      have HK := hide (show (0 < k → ∃ g, t[k - 1]? = some g ∧ g.path.length ≤ 200) from HR.out.2)
      rw [← HR.out.1] at hstep
      have Hf := hide hf
      obtain ⟨x, hx⟩ : ∃ x, x = f.text := ⟨_, rfl⟩
      obtain ⟨p, hp⟩ : ∃ p, p = f.path := ⟨_, rfl⟩
      rw [← hx] at d1 hstep
      rw [← hp] at d0 hstep HP
      have Hp := hide hp
      clear hx hp hf hd HR hbl
      by_cases hc : can p = true
      · rw [hc] at HP
        rw [hc, Bool.true_and] at hstep
        have hp2 : p.length ≤ 200 := by
          unfold can at hc
          rw [Bool.and_eq_true, decide_eq_true_eq] at hc
          exact hc.1
        by_cases hx : 65536 < x.length
        · rw [decide_eq_false (show ¬ x.length ≤ 65536 by omega), Bool.false_and, Bool.false_and] at hstep
          have Hr := hide hstep
          have dx : decide (65536 < (x.length : Int)) = true := decide_eq_true (by omega)
          have dx2 : decide (65536 < x.length) = true := decide_eq_true hx
          clear hstep hx hc hp2
          go_wp2_with fail
          refine (HP.out _).mono ?_
          rintro y w1 ⟨rfl, rfl⟩
          go_wp2
          go_ret
          exact ⟨by rw [HR0.out, Hr.out]; rfl, Hb.out⟩
        · rw [decide_eq_true (show x.length ≤ 65536 by omega), Bool.true_and] at hstep
          have dx : decide (65536 < (x.length : Int)) = false := decide_eq_false (by omega)
          have dx2 : decide (65536 < x.length) = false := decide_eq_false hx
          have Hstep := hide hstep
          clear hstep hx hc
          by_cases hk0 : k = 0
          · subst hk0
            simp only [Nat.zero_mul, Nat.add_zero] at d0 d1
            have Hnx := hide (show go none t = go (ahead t 1) (t.drop 1) by rw [Hstep.out, show above (ahead t 0) p = true from rfl, Bool.true_and])
            clear Hstep HK
            go_wp2_with fail
            refine (HP.out _).mono ?_
            rintro y w1 ⟨rfl, rfl⟩
            go_wp2
            refine Rg.wp_region_ord (fun w' => w' = w1.drew) [(0, true), (1, true), (2, true), (3, true), (4, true), (5, true), (6, true), (7, true), (8, true), (9, true), (10, true), (11, true), (12, true), (13, true), (14, true), (15, true), (16, true)] (by kernel_rfl) (by kernel_rfl) ?_
            simp only [Rg.pick, List.map_cons, List.map_nil, List.getD_cons_zero, List.getD_cons_succ]
            iterate 3 (refine Rg.ord_quiet (v := ?_) rfl (fun w' hS => ?_) rfl ?_; rotate_left; (subst hS; go_simp; with_reducible rfl); simp only [Act.put, List.setIfInBounds_toArray, List.set_cons_succ, List.set_cons_zero])
            iterate 13 (refine Rg.ord_passed (by rfl) rfl ?_; simp only [Act.put, List.setIfInBounds_toArray, List.set_cons_succ, List.set_cons_zero])
            iterate 1 (refine Rg.ord_quiet (v := ?_) rfl (fun w' hS => ?_) rfl ?_; rotate_left; (subst hS; go_simp; with_reducible rfl); simp only [Act.put, List.setIfInBounds_toArray, List.set_cons_succ, List.set_cons_zero])
            refine Rg.ord_nil ?_
            have Hbd := hide (Hb.out.drew)
            go_wp2
            exact ⟨⟨1, by omega, by go_num, by show Hid _; exact hide ⟨Hnx.out, fun _ => ⟨f, Hf.out, by rw [← Hp.out]; exact hp2⟩⟩, Hbd.out⟩, by simp [intOf]; omega⟩
          · obtain ⟨g, hg, hg2⟩ := HK.out (by omega)
            obtain ⟨km, hkm⟩ : ∃ z, z = k - 1 := ⟨_, rfl⟩
            rw [← hkm] at hg
            obtain ⟨b', o', g', hA, _, hg', _, k0, _⟩ := Hs.out.at (w' := wr) Hb.out (k := km) (by have := HN.out; omega)
            have e1 := hA
            simp only [Option.some.injEq, Addr.mk.injEq, and_true] at e1
            obtain ⟨rfl, rfl⟩ := e1
            rw [hg] at hg'
            simp only [Option.some.injEq] at hg'
            subst hg'
            have Hah := hide (show ahead t k = some g.path by unfold ahead; rw [if_neg hk0, ← hkm, hg]; rfl)
            obtain ⟨p0, hp0⟩ : ∃ z, z = g.path := ⟨_, rfl⟩
            rw [← hp0] at k0 Hah hg2
            have HLs := hide (fun w => rless_any p0 p w (by omega) (by omega))
            have hkw : IntKind.i64.wrap ((k : Int) - 1) = (km : Int) := by rw [IntWalk.i64_in _ (by omega)]; omega
            have hk1 : decide ((0 : Int) < (k : Int)) = true := decide_eq_true (by omega)
            have hk2 : (0 : Int) < (k : Int) := by omega
            have hk3 : decide (0 < k) = true := decide_eq_true (by omega)
            have hk4 : 0 < k := by omega
            have hkmN : km < N := by omega
            clear hkm hp0 hg hA HK hk0
            go_wp2_with fail
            refine (HP.out _).mono ?_
            rintro y w1 ⟨rfl, rfl⟩
            go_wp2
            have s0 : w1.drew.cell? ⟨b, o + km * 2, none⟩ = some (.string ⟨p0.toArray⟩) := k0
            have s1 : w1.drew.cell? ⟨b, o + k * 2, none⟩ = some (.string ⟨p.toArray⟩) := d0
            refine Rg.wp_region_ord (fun w' => w'.cell? ⟨b, o + km * 2, none⟩ = some (.string ⟨p0.toArray⟩) ∧ w'.cell? ⟨b, o + k * 2, none⟩ = some (.string ⟨p.toArray⟩)) [(0, true), (1, true), (2, true), (3, true), (4, true), (5, true), (6, true), (7, true), (8, true), (9, true), (10, true), (11, true), (12, true), (13, true), (14, false), (15, true), (16, true)] (by kernel_rfl) (by kernel_rfl) ?_
            simp only [Rg.pick, List.map_cons, List.map_nil, List.getD_cons_zero, List.getD_cons_succ]
            iterate 3 (refine Rg.ord_quiet (v := ?_) rfl (fun w' hS => ?_) ⟨s0, s1⟩ ?_; rotate_left; (obtain ⟨q0, q1⟩ := hS; go_simp; with_reducible rfl); simp only [Act.put, List.setIfInBounds_toArray, List.set_cons_succ, List.set_cons_zero])
            iterate 11 (refine Rg.ord_guarded (v := ?_) (by rfl) (fun w' hS => ?_) ⟨s0, s1⟩ ?_; rotate_left; (obtain ⟨q0, q1⟩ := hS; go_simp; with_reducible rfl); simp only [Act.put, List.setIfInBounds_toArray, List.set_cons_succ, List.set_cons_zero])
            refine Rg.ord_loud (by rfl) (fun K hK => ?_)
            go_simp
            refine (HLs.out _).mono ?_
            rintro y w2 ⟨rfl, hb2⟩
            refine hK _ _ (fun _ => ⟨agr s0 hb2, agr s1 hb2⟩) ?_
            clear hK K
            have r0 := agr s0 hb2
            have r1 := agr s1 hb2
            have Hb2 := hide (Hb.out.drew.trans (hb2.mono Hb.out.drew.size))
            clear hb2 s0 s1 k0 d0 d1
            cases hL : Op.bytesLess p0 p
            · have Hnx := hide (show go none t = false by rw [Hstep.out, Hah.out, show above (some p0) p = Op.bytesLess p0 p from rfl, hL, Bool.false_and])
              iterate 1 (refine Rg.ord_guarded (v := ?_) (by rfl) (fun w' hS => ?_) ⟨r0, r1⟩ ?_; rotate_left; (obtain ⟨q0, q1⟩ := hS; go_simp; with_reducible rfl); simp only [Act.put, List.setIfInBounds_toArray, List.set_cons_succ, List.set_cons_zero])
              iterate 1 (refine Rg.ord_quiet (v := ?_) rfl (fun w' hS => ?_) ⟨r0, r1⟩ ?_; rotate_left; (obtain ⟨q0, q1⟩ := hS; go_simp; with_reducible rfl); simp only [Act.put, List.setIfInBounds_toArray, List.set_cons_succ, List.set_cons_zero])
              refine Rg.ord_nil ?_
              clear r0 r1 hL
              go_wp2
              go_ret
              exact ⟨by rw [HR0.out, Hnx.out]; rfl, Hb2.out⟩
            · have Hnx := hide (show go none t = go (ahead t (k + 1)) (t.drop (k + 1)) by rw [Hstep.out, Hah.out, show above (some p0) p = Op.bytesLess p0 p from rfl, hL, Bool.true_and])
              iterate 1 (refine Rg.ord_guarded (v := ?_) (by rfl) (fun w' hS => ?_) ⟨r0, r1⟩ ?_; rotate_left; (obtain ⟨q0, q1⟩ := hS; go_simp; with_reducible rfl); simp only [Act.put, List.setIfInBounds_toArray, List.set_cons_succ, List.set_cons_zero])
              iterate 1 (refine Rg.ord_quiet (v := ?_) rfl (fun w' hS => ?_) ⟨r0, r1⟩ ?_; rotate_left; (obtain ⟨q0, q1⟩ := hS; go_simp; with_reducible rfl); simp only [Act.put, List.setIfInBounds_toArray, List.set_cons_succ, List.set_cons_zero])
              refine Rg.ord_nil ?_
              clear r0 r1 hL hk1 hk2 hk3 hk4 hkw
              go_wp2
              exact ⟨⟨k + 1, by omega, by go_num, by show Hid _; exact hide ⟨Hnx.out, fun _ => ⟨f, Hf.out, by rw [← Hp.out]; exact hp2⟩⟩, Hb2.out⟩, by simp [intOf]; omega⟩
      · have hcf : can p = false := by simpa using hc
        rw [hcf] at HP
        rw [hcf, Bool.false_and, Bool.false_and, Bool.false_and] at hstep
        have Hr := hide hstep
        clear hstep hc hcf
        go_wp2_with fail
        refine (HP.out _).mono ?_
        rintro y w1 ⟨rfl, rfl⟩
        go_wp2
        go_ret
        exact ⟨by rw [HR0.out, Hr.out]; rfl, Hb.out⟩
    · obtain rfl : k = N := by omega
      have Hr := hide (show go none t = true by rw [HR.out.1, HN.out, List.drop_length]; rfl)
      clear HR
      go_wp2
      go_ret
      exact ⟨by rw [HR0.out, Hr.out, Bool.true_and]; rfl, Hb.out⟩
end Go.Proofs.YtlplgkdoiinfhaaDoor.Tr
