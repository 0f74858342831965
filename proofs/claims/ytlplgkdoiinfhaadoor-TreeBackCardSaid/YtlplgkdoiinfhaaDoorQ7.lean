/-
  trees: can a path be?
-/
import Derived.BigQuiet
import Derived.Test.YtlplgkdoiinfhaaDoorQ5
import Derived.Test.YtlplgkdoiinfhaaDoorQ1
import Derived.Test.YtlplgkdoiinfhaaDoorShelf
import Derived.Lib.MinMaxS
namespace Go.Proofs.YtlplgkdoiinfhaaDoor.Tr
open Go Go.RowKit Kt Lw Li Lx

/-- a library's variable is there -/
def Most (w : World) : Prop := ∃ m, w.cell? ⟨2, 0, none⟩ = some (.int .i64 m)
theorem Most.keep {w w' : World} (h : Most w) (hb : Below w.heap.size w w') : Most w' := by
  obtain ⟨m, hm⟩ := h
  exact ⟨m, agr hm hb⟩
theorem all_take {α : Type} (f : α → Bool) (l : List α) (k : Nat) (x : α) (h : l[k]? = some x) : (l.take (k + 1)).all f = ((l.take k).all f && f x) := by
  rw [List.take_add_one, h, List.all_append]
  simp
theorem all_part {α : Type} (f : α → Bool) (l : List α) (k : Nat) (h : (l.take k).all f = false) : l.all f = false := by
  cases hl : l.all f with
  | false => rfl
  | true =>
    rw [List.all_eq_true] at hl
    rw [List.all_eq_false] at h
    obtain ⟨x, hx, hf⟩ := h
    exact absurd (hl x (List.mem_of_mem_take hx)) hf
set_option maxRecDepth 100000 in
theorem parts_any (p : Bs) (w : World) (hE : Most w) (hl : p.length ≤ 200) :
    Calls Tryd.prog 35 #[.string ⟨p.toArray⟩, .string ⟨#[47]⟩] w fun y w' => ∃ A c, y = .returned (.slice A (sp [] p).length c) ∧ Vs w' (fun b => b < w'.heap.size) A c (texts (sp [] p)) ∧ Below w.heap.size w w' := by
  obtain ⟨m, hm⟩ := hE
  refine (Tryd.strings_Split ⟨p.toArray⟩ ⟨#[47]⟩ m w (by show p.length < _; omega) hm (by decide)).mono ?_
  rintro y w' ⟨rfl, rfl⟩
  have hsp : (Lib.splitB ⟨#[47]⟩ 0 (Lib.countB ⟨p.toArray⟩ ⟨#[47]⟩) ⟨p.toArray⟩).map (·.data.toList) = sp [] p := by
    rw [Lib.splitB_data, ← split_sp p]; rfl
  have hcells : (Lib.splitB ⟨#[47]⟩ 0 (Lib.countB ⟨p.toArray⟩ ⟨#[47]⟩) ⟨p.toArray⟩).map Value.string = texts (sp [] p) := by
    rw [← hsp]; unfold texts; rw [List.map_map]; rfl
  have hlen : Lib.countB ⟨p.toArray⟩ ⟨#[47]⟩ + 1 = (sp [] p).length := by
    rw [← hsp, List.length_map]
    exact (Lib.splitB_all ⟨#[47]⟩ (by decide) 0 _ ⟨p.toArray⟩ rfl).symm
  rw [hcells, hlen]
  have hrow := Row.fresh w 9 (texts (sp [] p)).toArray
  refine ⟨_, _, rfl, ⟨by rw [texts_len]; exact Nat.le_refl _, fun _ => ⟨w.heap.size, 0, rfl, by simp, fun j u hj => ?_⟩⟩, (Below.refl _ w).alloc (Nat.le_refl _) _⟩
  rw [Nat.zero_add, hrow.cell]
  simpa using hj
set_option maxRecDepth 100000 in
set_option maxHeartbeats 4000000 in
theorem path_any (p : Bs) (w : World) (hE : Most w) (hl : p.length ≤ 9223372036854775807) :
    Calls Tryd.prog 14 #[.string ⟨p.toArray⟩] w fun y w' => y = .returned (.bool (can p)) ∧ Below w.heap.size w w' := by
  by_cases hlong : 200 < p.length
  · have Hc := hide (show can p = false by unfold can; rw [decide_eq_false (by omega)]; rfl)
    have d0 : decide (200 < (p.length : Int)) = true := decide_eq_true (by omega)
    have d1 : decide (200 < p.length) = true := decide_eq_true hlong
    clear hlong
    go_enter Tryd.func14, Tryd.ntmps14
    go_wp2
    go_ret
    exact ⟨by rw [Hc.out]; rfl, Below.refl _ _⟩
  · have Hc := hide (show can p = (p.all good && (sp [] p).all part) by rw [can_sp, decide_eq_true (show p.length ≤ 200 by omega), Bool.true_and])
    have d0 : decide (200 < (p.length : Int)) = false := decide_eq_false (by omega)
    have d1 : decide (200 < p.length) = false := decide_eq_false hlong
    have HS := hide (parts_any p w hE (by omega))
    obtain ⟨n, hn⟩ : ∃ n, n = p.length := ⟨_, rfl⟩
    have hn2 : n ≤ 200 := by omega
    have Hn := hide hn
    clear hl
    go_enter Tryd.func14, Tryd.ntmps14
    go_wp2
    go_loopw [11] (fun i wr => ∃ k : Nat, k ≤ n ∧ i = .int .i64 k ∧ Hid ((p.take k).all good = true) ∧ w = wr) (fun i _ => n - (intOf i).toNat)
    case atStart => exact ⟨0, Nat.zero_le _, rfl, by show Hid _; exact hide (by simp), rfl⟩
    case round =>
      obtain ⟨k, hk, rfl, HR, rfl⟩ := hrel
      rw [← hn] at d0 d1
      by_cases hlt : k < n
      · have hkl : k < p.length := by omega
        have eg := get_at9 p k hkl
        have hr := all_take good p k (p.getD k 0) (by rw [List.getD_eq_getElem?_getD, List.getElem?_eq_getElem hkl]; rfl)
        rw [HR.out, Bool.true_and] at hr
        have Hall := hide (all_part good p (k + 1))
        generalize p.getD k 0 = c at *
        by_cases h32 : c.toNat < 32
        · have c32 : decide ((c.toNat : Int) < 32) = true := decide_eq_true (by omega)
          have c32n : decide (c.toNat < 32) = true := decide_eq_true h32
          have Hr := hide (Hall.out (by rw [hr]; unfold good; rw [decide_eq_true (by rw [UInt8.lt_iff_toNat_lt]; exact h32)]; simp))
          clear hr h32
          go_wp2
          go_ret
          exact ⟨by rw [Hc.out, Hr.out]; rfl, Below.refl _ _⟩
        · have c32 : decide ((c.toNat : Int) < 32) = false := decide_eq_false (by omega)
          have c32n : decide (c.toNat < 32) = false := decide_eq_false h32
          have l32 : decide (c < 32) = false := decide_eq_false (by rw [UInt8.lt_iff_toNat_lt]; exact h32)
          by_cases h127 : c.toNat = 127
          · have hce : c = 127 := UInt8.toNat_inj.1 h127
            have c7 : ((c.toNat : Int) == 127) = true := by rw [beq_iff_eq]; omega
            have c7n : (c.toNat == 127) = true := by rw [beq_iff_eq]; exact h127
            have Hr := hide (Hall.out (by rw [hr, hce]; decide))
            clear hr h32 h127 hce l32
            go_wp2
            go_ret
            exact ⟨by rw [Hc.out, Hr.out]; rfl, Below.refl _ _⟩
          · have c7 : ((c.toNat : Int) == 127) = false := by rw [beq_eq_false_iff_ne]; omega
            have c7n : (c.toNat == 127) = false := by rw [beq_eq_false_iff_ne]; exact h127
            have Hr := hide (show (p.take (k + 1)).all good = true by
              rw [hr]; unfold good; rw [l32, show (c == 127) = false by rw [beq_eq_false_iff_ne]; exact fun h => h127 (by rw [h]; rfl)]; rfl)
            clear hr h32 h127 l32 HR
            go_wp2
            exact ⟨⟨k + 1, by omega, by go_num, by show Hid _; exact hide Hr.out, trivial⟩, by simp [intOf]; omega⟩
      · obtain rfl : k = n := by omega
        have Hg := hide (show p.all good = true by have := HR.out; rwa [hn, List.take_length] at this)
        rw [Hg.out, Bool.true_and] at Hc
        have hkp : ¬ k < p.length := by omega
        clear HR hn d0 d1
        go_wp2_with fail
        refine HS.out.mono ?_
        rintro y w1 ⟨A, c, rfl, hv, hb1⟩
        have Hv := hide hv
        have Hb1 := hide hb1
        clear hv hb1 HS
        have hsl := sp_len p []
        generalize sp [] p = L at *
        obtain ⟨M, hM⟩ : ∃ M, M = L.length := ⟨_, rfl⟩
        have hM2 : M ≤ 201 := by omega
        rw [← hM]
        clear hsl
        have HM := hide hM
        clear hM
        go_wp2
        go_loopw [28] (fun i wr => ∃ j : Nat, j ≤ M ∧ i = .int .i64 j ∧ Hid ((L.take j).all part = true) ∧ w1 = wr) (fun i _ => M - (intOf i).toNat)
        case atStart => exact ⟨0, Nat.zero_le _, rfl, by show Hid _; exact hide (by simp), rfl⟩
        case round =>
          obtain ⟨j, hj, rfl, HR, rfl⟩ := hrel
          by_cases hlt : j < M
          · have hjl : j < L.length := by rw [← HM.out]; exact hlt
            obtain ⟨b, o, rfl, _, hc⟩ := Hv.out.2 (by rw [texts_len]; omega)
            have hcell := hc j _ (texts_at L j hjl)
            have hr := all_take part L j (L.getD j []) (by rw [List.getD_eq_getElem?_getD, List.getElem?_eq_getElem hjl]; rfl)
            rw [HR.out, Bool.true_and] at hr
            have Hall := hide (all_part part L (j + 1))
            generalize L.getD j [] = x at *
            clear hc
            by_cases g0 : x = []
            · subst g0
              have Hr := hide (Hall.out (by rw [hr]; exact part_no1))
              clear hr
              go_wp2
              go_ret
              exact ⟨by rw [Hc.out, Hr.out]; rfl, Hb1.out⟩
            have b0 : (x == []) = false := by simpa using g0
            have b0e : x.isEmpty = false := by simpa using g0
            by_cases g1 : x = [46]
            · subst g1
              have Hr := hide (Hall.out (by rw [hr]; exact part_no2))
              clear hr
              go_wp2
              go_ret
              exact ⟨by rw [Hc.out, Hr.out]; rfl, Hb1.out⟩
            have b1 : (x == [46]) = false := by simpa using g1
            by_cases g2 : x = [46, 46]
            · subst g2
              have Hr := hide (Hall.out (by rw [hr]; exact part_no3))
              clear hr
              go_wp2
              go_ret
              exact ⟨by rw [Hc.out, Hr.out]; rfl, Hb1.out⟩
            have b2 : (x == [46, 46]) = false := by simpa using g2
            have Hr := hide (show (L.take (j + 1)).all part = true by rw [hr]; exact part_yes g0 g1 g2)
            clear hr HR
            go_wp2
            exact ⟨⟨j + 1, by omega, by go_num, by show Hid _; exact hide Hr.out, trivial⟩, by simp [intOf]; omega⟩
          · obtain rfl : j = M := by omega
            have Hr := hide (show L.all part = true by have := HR.out; rwa [HM.out, List.take_length] at this)
            clear HR
            go_wp2
            go_ret
            exact ⟨by rw [Hc.out, Hr.out]; rfl, Hb1.out⟩
end Go.Proofs.YtlplgkdoiinfhaaDoor.Tr
namespace Go.Proofs.YtlplgkdoiinfhaaDoor.Tr
open Go Go.RowKit Kt Lw Li Lx

theorem can_lt {p : Bs} (h : can p = true) : lt [] p = true ∧ p.length ≤ 200 := by
  cases p with
  | nil => exact absurd h (by decide)
  | cons c r =>
    refine ⟨rfl, ?_⟩
    unfold can at h
    rw [Bool.and_eq_true, decide_eq_true_eq] at h
    exact h.1
theorem go_path {q : Option Bs} {p : Bs} {x : Bs} {t : List Fl} (h : can p = false) : go q (⟨p, x⟩ :: t) = false := by
  rw [go, h]; simp
theorem run_leq (p q : Bs) (w : World) : (binOp .leq 9 (.string ⟨p.toArray⟩) (.string ⟨q.toArray⟩)).run Tryd.prog w = .ok (.bool (!lt q p)) w := by
  have h : (Op.bytesLess p q || p == q) = !lt q p := by
    rcases lt_tri p q with h | h | h
    · rw [lt_asymm h, show Op.bytesLess p q = true from h]; rfl
    · subst h; rw [lt_irr]; simp
    · rw [h, show Op.bytesLess p q = false from lt_asymm h, show (p == q) = false by rw [beq_eq_false_iff_ne]; exact (lt_ne h).symm]; rfl
  rw [← h]
  clear h
  show (Op.stringOp .leq ⟨p.toArray⟩ ⟨q.toArray⟩).run Tryd.prog w = _
  simp only [Op.stringOp, Lib.toList_data]
  rfl
set_option maxRecDepth 100000 in
set_option maxHeartbeats 4000000 in
theorem tright_any (t : List Fl) (A : Option Addr) (c : Nat) (w : World) (hs : Fls w A c t) (hE : Most w) (hm : ∀ f ∈ t, f.path.length ≤ 9223372036854775807) (hn : t.length ≤ 9223372036854775807) :
    Calls Tryd.prog 16 #[.slice A t.length c] w fun y w' => y = .returned (.bool (right t)) ∧ Below w.heap.size w w' := by
  have Hs := hide hs
  have Hm := hide hm
  have HE := hide hE
  obtain ⟨N, hN⟩ : ∃ N, N = t.length := ⟨_, rfl⟩
  rw [← hN] at hn ⊢
  have HN := hide hN
  clear hs hm hE
  by_cases hlong : 1000 < N
  · have HR := hide (show right t = false by unfold right; rw [← hN, decide_eq_false (show ¬ N ≤ 1000 by omega), Bool.and_false])
    have d0 : decide (1000 < (N : Int)) = true := decide_eq_true (by omega)
    have d1 : decide (1000 < N) = true := decide_eq_true hlong
    clear hlong hN
    go_enter Tryd.func16, Tryd.ntmps16
    go_wp2
    go_ret
    exact ⟨by rw [HR.out]; rfl, Below.refl _ _⟩
  have HR0 := hide (show right t = go none t by unfold right; rw [← hN, decide_eq_true (show N ≤ 1000 by omega), Bool.and_true])
  have d0 : decide (1000 < (N : Int)) = false := decide_eq_false (by omega)
  have d1 : decide (1000 < N) = false := decide_eq_false hlong
  clear hN
  go_enter Tryd.func16, Tryd.ntmps16
  go_wp2
  clear d0 d1
  go_loopw [3, 11] (fun s i wr => ∃ (k : Nat) (p0 : Bs), k ≤ N ∧ i = .int .i64 k ∧ s = .string ⟨p0.toArray⟩ ∧ Hid (go none t = go (ahead t k) (t.drop k) ∧ ∀ q, can q = true → above (ahead t k) q = lt p0 q) ∧ Below w.heap.size w wr) (fun _ i _ => N - (intOf i).toNat)
  case atStart => exact ⟨0, [], Nat.zero_le _, rfl, rfl, by show Hid _; exact hide ⟨rfl, fun q hq => (can_lt hq).1.symm⟩, Below.refl _ _⟩
  case round =>
    obtain ⟨k, p0, hk, rfl, rfl, HR, hb⟩ := hrel
    have Hb := hide hb
    clear hb
    by_cases hlt : k < N
    · obtain ⟨b, o, f, rfl, hbl, hf, hd, d0, d1⟩ := Hs.out.at (w' := wr) Hb.out (k := k) (by have := HN.out; omega)
      have hstep := go_step hf hd
      rw [← HR.out.1] at hstep
      have HP := hide (fun w (hE : Most w) => path_any f.path w hE (Hm.out f (List.mem_of_getElem? hf)))
      have Hab := hide (HR.out.2 f.path)
      have Hnx := hide (show ∀ q, above (ahead t (k + 1)) q = lt f.path q from fun q => by unfold ahead; rw [if_neg (by omega), Nat.add_sub_cancel, hf]; rfl)
      obtain ⟨p, x⟩ := f
      simp only at hstep HP Hab Hnx d0 d1
      have hrow := Row.fresh wr tF #[.string ⟨p.toArray⟩, .string ⟨x.toArray⟩]
      have hb1 := Hb.out.alloc Hb.out.size (.cells #[.string ⟨p.toArray⟩, .string ⟨x.toArray⟩] tF)
      obtain ⟨w1, hw1⟩ : ∃ w1, w1 = wr.alloc (.cells #[.string ⟨p.toArray⟩, .string ⟨x.toArray⟩] tF) := ⟨_, rfl⟩
      obtain ⟨g, hg⟩ : ∃ g, g = wr.heap.size := ⟨_, rfl⟩
      rw [← hw1] at hrow hb1
      rw [← hg] at hrow
      have c0 : w1.cell? ⟨g, 0, none⟩ = some (.string ⟨p.toArray⟩) := hrow.cell 0
      have c1 : w1.cell? ⟨g, 1, none⟩ = some (.string ⟨x.toArray⟩) := hrow.cell 1
      have HE1 := hide (HE.out.keep hb1)
      have Hb1 := hide hb1
      have W1 := hide hw1
      have G1 := hide hg
      have Hstep := hide hstep
      clear hrow hb1 hw1 hg hstep hf hd hbl HR
      go_wp2_with fail
      rw [← W1.out, ← G1.out]
      cases hc : can p with
      | false =>
        have Hr := hide (show go none t = false by rw [Hstep.out, hc]; simp)
        rw [hc] at HP
        clear hc d0 d1
        refine (HP.out _ HE1.out).mono ?_
        rintro y w2 ⟨rfl, hb2⟩
        have Hb2 := hide (Hb1.out.trans (hb2.mono Hb1.out.size))
        clear hb2
        go_wp2
        go_ret
        exact ⟨by rw [HR0.out, Hr.out]; rfl, Hb2.out⟩
      | true =>
        have hab := Hab.out hc
        have hst := Hstep.out
        rw [hc, hab, Bool.true_and] at hst
        rw [hc] at HP
        clear d0 d1 hab
        refine (HP.out _ HE1.out).mono ?_
        rintro y w2 ⟨rfl, hb2⟩
        have a0 := agr c0 hb2
        have a1 := agr c1 hb2
        have Hb2 := hide (Hb1.out.trans (hb2.mono Hb1.out.size))
        clear hb2 c0 c1 hc
        cases hl : lt p0 p with
        | false =>
          have Hr := hide (show go none t = false by rw [hst, hl]; simp)
          have hle := fun w => run_leq p p0 w
          rw [hl, Bool.not_false] at hle
          clear hst hl
          go_wp2
          go_ret
          exact ⟨by rw [HR0.out, Hr.out]; rfl, Hb2.out⟩
        | true =>
          have hle := fun w => run_leq p p0 w
          rw [hl, Bool.not_true] at hle
          rw [hl, Bool.and_true] at hst
          by_cases hx : 65536 < x.length
          · have dx : decide (65536 < (x.length : Int)) = true := decide_eq_true (by omega)
            have dx2 : decide (65536 < x.length) = true := decide_eq_true hx
            have Hr := hide (show go none t = false by rw [hst, decide_eq_false (show ¬ x.length ≤ 65536 by omega)]; rfl)
            clear hst hl hx
            go_wp2
            go_ret
            exact ⟨by rw [HR0.out, Hr.out]; rfl, Hb2.out⟩
          · have dx : decide (65536 < (x.length : Int)) = false := decide_eq_false (by omega)
            have dx2 : decide (65536 < x.length) = false := decide_eq_false hx
            have Hr := hide (show go none t = go (ahead t (k + 1)) (t.drop (k + 1)) by rw [hst, decide_eq_true (show x.length ≤ 65536 by omega), Bool.true_and])
            clear hst hl hx
            go_wp2
            exact ⟨⟨k + 1, p, by omega, by go_num, rfl, by show Hid _; exact hide ⟨Hr.out, fun q _ => Hnx.out q⟩, Hb2.out⟩, by simp [intOf]; omega⟩
    · obtain rfl : k = N := by omega
      have Hr := hide (show go none t = true by rw [HR.out.1, HN.out, List.drop_length]; rfl)
      clear HR
      go_wp2
      go_ret
      exact ⟨by rw [HR0.out, Hr.out]; rfl, Hb.out⟩
end Go.Proofs.YtlplgkdoiinfhaaDoor.Tr
namespace Go.Proofs.YtlplgkdoiinfhaaDoor.Tr
open Go Go.RowKit Kt Lw Li Lx

theorem cmp_lt : ∀ a b : Bs, lt a b = true → Lib.compareBytes a b = -1
  | _, [], h => by simp [lt, Op.bytesLess] at h
  | [], _ :: _, _ => rfl
  | x :: a, y :: b, h => by
    rw [lt_cons, Bool.or_eq_true, Bool.and_eq_true, decide_eq_true_iff, beq_iff_eq] at h
    rw [Lib.compareBytes]
    rcases h with h | ⟨h1, h2⟩
    · rw [if_pos h]
    · subst h1
      rw [if_neg (by rw [UInt8.lt_iff_toNat_lt]; omega), if_neg (by rw [UInt8.lt_iff_toNat_lt]; omega), cmp_lt a b h2]
theorem cmp_gt : ∀ a b : Bs, lt b a = true → Lib.compareBytes a b = 1
  | [], _, h => by simp [lt, Op.bytesLess] at h
  | _ :: _, [], _ => rfl
  | x :: a, y :: b, h => by
    rw [lt_cons, Bool.or_eq_true, Bool.and_eq_true, decide_eq_true_iff, beq_iff_eq] at h
    rw [Lib.compareBytes]
    rcases h with h | ⟨h1, h2⟩
    · rw [if_neg (by rw [UInt8.lt_iff_toNat_lt] at h ⊢; omega), if_pos h]
    · subst h1
      rw [if_neg (by rw [UInt8.lt_iff_toNat_lt]; omega), if_neg (by rw [UInt8.lt_iff_toNat_lt]; omega), cmp_gt a b h2]
theorem cmp_eq : ∀ a : Bs, Lib.compareBytes a a = 0
  | [] => rfl
  | x :: a => by
    rw [Lib.compareBytes, if_neg (by rw [UInt8.lt_iff_toNat_lt]; omega), if_neg (by rw [UInt8.lt_iff_toNat_lt]; omega), cmp_eq a]
/-- how two paths stand -/
def cmp (a b : Bs) : Int := if lt a b then -1 else if a = b then 0 else 1
theorem cmp_is (a b : Bs) : Lib.compareBytes a b = cmp a b := by
  unfold cmp
  rcases lt_tri a b with h | h | h
  · rw [if_pos h, cmp_lt a b h]
  · subst h; rw [lt_irr, if_neg (by decide), if_pos rfl, cmp_eq]
  · rw [lt_asymm h, if_neg (by decide), if_neg (fun e => lt_ne h e.symm), cmp_gt a b h]
set_option maxRecDepth 100000 in
theorem cmp_any (p x q : Bs) (w : World) :
    Calls Tryd.prog 64 #[.agg #[.string ⟨p.toArray⟩, .string ⟨x.toArray⟩], .string ⟨q.toArray⟩] w fun y w' => y = .returned (.int .i64 (cmp p q)) ∧ Below w.heap.size w w' := by
  have hrow := Row.fresh w tF #[.string ⟨p.toArray⟩, .string ⟨x.toArray⟩]
  have hb1 := (Below.refl w.heap.size w).alloc (Nat.le_refl _) (.cells #[.string ⟨p.toArray⟩, .string ⟨x.toArray⟩] tF)
  have HC := hide (fun w => Tryd.strings_Compare ⟨p.toArray⟩ ⟨q.toArray⟩ w)
  have hc : Lib.compareBytes (ByteArray.mk p.toArray).data.toList (ByteArray.mk q.toArray).data.toList = cmp p q := cmp_is p q
  rw [hc] at HC
  have c0 : (w.alloc (.cells #[.string ⟨p.toArray⟩, .string ⟨x.toArray⟩] tF)).cell? ⟨w.heap.size, 0, none⟩ = some (.string ⟨p.toArray⟩) := hrow.cell 0
  have Hb1 := hide hb1
  clear hrow hc hb1
  generalize cmp p q = z at *
  go_enter Tryd.func64, Tryd.ntmps64
  go_wp2_with fail
  refine (HC.out _).mono ?_
  rintro y w1 ⟨rfl, rfl⟩
  go_wp2
  go_ret
  exact ⟨rfl, Hb1.out⟩
/-- what the search has found so far -/
structure Seek (t : List Fl) (p : Bs) (lo hi : Nat) : Prop where
  le : lo ≤ hi
  len : hi ≤ t.length
  lo : ∀ k g, t[k]? = some g → k < lo → lt g.path p = true
  hi : ∀ k g, t[k]? = some g → hi ≤ k → lt g.path p = false
theorem Seek.start (t : List Fl) (p : Bs) : Seek t p 0 t.length :=
  ⟨Nat.zero_le _, Nat.le_refl _, fun _ _ _ h => absurd h (by omega), fun k g h h' => by have := (List.getElem?_eq_some_iff.1 h).1; omega⟩
theorem Seek.up {t : List Fl} {p : Bs} {lo hi m : Nat} {f : Fl} (h : Seek t p lo hi) {q : Option Bs} (hg : go q t = true) (hf : t[m]? = some f) (hm : m < hi) (hl : lt f.path p = true) : Seek t p (m + 1) hi :=
  ⟨by omega, h.len, fun k g hk hkm => go_mono hg hk hf (by omega) hl, h.hi⟩
theorem Seek.down {t : List Fl} {p : Bs} {lo hi m : Nat} {f : Fl} (h : Seek t p lo hi) {q : Option Bs} (hg : go q t = true) (hf : t[m]? = some f) (hm : lo ≤ m) (hh : m ≤ hi) (hl : lt f.path p = false) : Seek t p lo m :=
  ⟨hm, by have := h.len; omega, h.lo, fun k g hk hkm => by
    cases hx : lt g.path p with
    | false => rfl
    | true => have := go_mono hg hf hk hkm hx; rw [hl] at this; cases this⟩
theorem Seek.done {t : List Fl} {p : Bs} {k : Nat} (h : Seek t p k k) : pos t p = k :=
  pos_of t p k h.len (fun j g hj hjk => h.lo j g hj hjk) (fun g hg => h.hi k g hg (Nat.le_refl _))
set_option maxRecDepth 100000 in
set_option maxHeartbeats 4000000 in
theorem search_any (t : List Fl) (p : Bs) (A : Option Addr) (c : Nat) (w : World) (hs : Fls w A c t) (hn : t.length ≤ 1000000) {q : Option Bs} (hg : go q t = true) :
    Calls Tryd.prog 63 #[.slice A t.length c, .string ⟨p.toArray⟩, .func (.func 64) #[] #[]] w fun y w' =>
      y = .returned (.tuple #[.int .i64 (pos t p : Nat), .bool (hit t p)]) ∧ Below w.heap.size w w' := by
  have Hs := hide hs
  have Hg := hide hg
  have HH := hide (hit_of t p)
  have HC := hide (fun a x w => cmp_any a x p w)
  obtain ⟨N, hN⟩ : ∃ N, N = t.length := ⟨_, rfl⟩
  have HS := hide (Seek.start t p)
  rw [← hN] at hn HS ⊢
  have HN := hide hN
  clear hs hg hN
  go_enter Tryd.func63, Tryd.ntmps63
  go_wp2
  go_loopw [9, 10] (fun s i wr => ∃ lo hi : Nat, lo ≤ hi ∧ hi ≤ N ∧ s = .int .i64 lo ∧ i = .int .i64 hi ∧ Hid (Seek t p lo hi) ∧ Below w.heap.size w wr) (fun s i _ => (intOf i).toNat - (intOf s).toNat)
  case atStart => exact ⟨0, N, Nat.zero_le _, Nat.le_refl _, rfl, rfl, by show Hid _; exact HS, Below.refl _ _⟩
  case round =>
    obtain ⟨lo, hi, hlh, hhn, rfl, rfl, HK, hb⟩ := hrel
    have Hb := hide hb
    clear hb HS
    by_cases hlt : lo < hi
    · obtain ⟨m, hm⟩ : ∃ m, m = (lo + hi) / 2 := ⟨_, rfl⟩
      have hm1 : lo ≤ m := by omega
      have hm2 : m < hi := by omega
      have hm3 : ((lo : Int) + (hi : Int)) / 2 = (m : Int) := by omega
      obtain ⟨b, o, f, rfl, hbl, hf, hd, d0, d1⟩ := Hs.out.at (w' := wr) Hb.out (k := m) (by have := HN.out; omega)
      obtain ⟨a, x⟩ := f
      simp only at d0 d1
      have Hf := hide hf
      clear hf hd hbl hm
      have HCw := HC.out a x
      cases hl : lt a p with
      | true =>
        have HK2 := hide (HK.out.up Hg.out Hf.out hm2 hl)
        rw [show cmp a p = -1 by unfold cmp; rw [hl, if_pos rfl]] at HCw
        have Hw := hide HCw
        clear hl HK HCw
        go_wp2_with fail
        refine (Hw.out _).mono ?_
        rintro y w1 ⟨rfl, hb1⟩
        have Hb1 := hide (Hb.out.trans (hb1.mono Hb.out.size))
        clear hb1 d0 d1
        go_wp2
        exact ⟨⟨m + 1, hi, by omega, by omega, by go_num, rfl, by show Hid _; exact HK2, Hb1.out⟩, by simp [intOf]; omega⟩
      | false =>
        have HK2 := hide (HK.out.down Hg.out Hf.out hm1 (by omega) hl)
        obtain ⟨z, hz, hz2⟩ : ∃ z : Int, cmp a p = z ∧ 0 ≤ z := by
          unfold cmp; rw [hl, if_neg (by decide)]; split
          · exact ⟨_, rfl, by decide⟩
          · exact ⟨_, rfl, by decide⟩
        rw [hz] at HCw
        have Hw := hide HCw
        have hz3 : ¬ z < 0 := by omega
        have hz4 : decide (z < 0) = false := decide_eq_false hz3
        clear hl HK HCw hz
        go_wp2_with fail
        refine (Hw.out _).mono ?_
        rintro y w1 ⟨rfl, hb1⟩
        have Hb1 := hide (Hb.out.trans (hb1.mono Hb.out.size))
        clear hb1 d0 d1
        go_wp2
        exact ⟨⟨lo, m, by omega, by omega, rfl, by go_num, by show Hid _; exact HK2, Hb1.out⟩, by simp [intOf]; omega⟩
    · obtain rfl : lo = hi := by omega
      have hpos := HK.out.done
      have Hhi := hide (fun g hg => HK.out.hi lo g hg (Nat.le_refl _))
      obtain ⟨h1, h2⟩ := HH.out
      rw [hpos] at h1 h2
      have Hpos := hide hpos
      clear hpos HK
      by_cases hl : lo < N
      · obtain ⟨b, o, f, rfl, hbl, hf, hd, d0, d1⟩ := Hs.out.at (w' := wr) Hb.out (k := lo) (by have := HN.out; omega)
        have hh := h1 f hf
        have hlt2 := Hhi.out f hf
        obtain ⟨a, x⟩ := f
        simp only at d0 d1 hh hlt2
        have HCw := HC.out a x
        have dl : decide ((lo : Int) < (N : Int)) = true := decide_eq_true (by omega)
        have dl2 : decide (lo < N) = true := decide_eq_true hl
        by_cases he : a = p
        · rw [show cmp a p = 0 by unfold cmp; rw [hlt2, if_neg (by decide), if_pos he]] at HCw
          have Hh := hide (show hit t p = true by rw [hh]; exact decide_eq_true he)
          have Hw := hide HCw
          clear HCw hh hlt2 he h1 h2 hf hd hbl
          go_wp2_with fail
          refine (Hw.out _).mono ?_
          rintro y w1 ⟨rfl, hb1⟩
          have Hb1 := hide (Hb.out.trans (hb1.mono Hb.out.size))
          clear hb1 d0 d1
          go_wp2
          go_ret2
          exact ⟨by rw [Hpos.out, Hh.out]; rfl, Hb1.out⟩
        · rw [show cmp a p = 1 by unfold cmp; rw [hlt2, if_neg (by decide), if_neg he]] at HCw
          have Hh := hide (show hit t p = false by rw [hh]; exact decide_eq_false he)
          have Hw := hide HCw
          clear HCw hh hlt2 he h1 h2 hf hd hbl
          go_wp2_with fail
          refine (Hw.out _).mono ?_
          rintro y w1 ⟨rfl, hb1⟩
          have Hb1 := hide (Hb.out.trans (hb1.mono Hb.out.size))
          clear hb1 d0 d1
          go_wp2
          go_ret2
          exact ⟨by rw [Hpos.out, Hh.out]; rfl, Hb1.out⟩
      · have Hh := hide (h2 (by have := HN.out; omega))
        have dl : decide ((lo : Int) < (N : Int)) = false := decide_eq_false (by omega)
        have dl2 : decide (lo < N) = false := decide_eq_false hl
        clear h1 h2
        go_wp2
        go_ret2
        exact ⟨by rw [Hpos.out, Hh.out]; rfl, Hb.out⟩
set_option maxRecDepth 100000 in
set_option maxHeartbeats 4000000 in
theorem place_any (t : List Fl) (p : Bs) (A : Option Addr) (c : Nat) (w : World) (hs : Fls w A c t) (hn : t.length ≤ 1000000) {q : Option Bs} (hg : go q t = true) :
    Calls Tryd.prog 45 #[.slice A t.length c, .string ⟨p.toArray⟩] w fun y w' =>
      y = .returned (.tuple #[.int .i64 (pos t p : Nat), .int .i64 (upto t p : Nat)]) ∧ Below w.heap.size w w' := by
  have HS := hide (search_any t p A c w hs hn hg)
  have hp := pos_le t p
  obtain ⟨N, hN⟩ : ∃ N, N = t.length := ⟨_, rfl⟩
  rw [← hN] at HS hp hn ⊢
  have hu : upto t p = if hit t p then pos t p + 1 else pos t p := rfl
  cases hh : hit t p with
  | true =>
    rw [hh, if_pos rfl] at hu
    rw [hh] at HS
    have Hu := hide hu
    clear hs hN hu hh hg
    generalize upto t p = u at *
    generalize pos t p = k at *
    go_enter Tryd.func45, Tryd.ntmps45
    go_wp2_with fail
    refine HS.out.mono ?_
    rintro y w1 ⟨rfl, hb1⟩
    have Hb1 := hide hb1
    clear hb1 HS
    go_wp2
    go_ret2
    exact ⟨by rw [Hu.out]; rfl, Hb1.out⟩
  | false =>
    rw [hh, if_neg (by decide)] at hu
    rw [hh] at HS
    have Hu := hide hu
    clear hs hN hu hh hg
    generalize upto t p = u at *
    generalize pos t p = k at *
    go_enter Tryd.func45, Tryd.ntmps45
    go_wp2_with fail
    refine HS.out.mono ?_
    rintro y w1 ⟨rfl, hb1⟩
    have Hb1 := hide hb1
    clear hb1 HS
    go_wp2
    go_ret2
    exact ⟨by rw [Hu.out]; rfl, Hb1.out⟩
end Go.Proofs.YtlplgkdoiinfhaaDoor.Tr
