/-
  The statement DiffLong, walked.
-/
import Derived.Test.YtcilenppjpnaoaaEO
import Derived.Test.YtcilenppjpnaoaaEV
namespace Go.Proofs.Ytcilenppjpnaoaa.Df
open Go Go.RowKit Kt Lw Li

def Sep (u v : Value) : Prop := ∀ k, u.ownBlock = some k → v.ownBlock ≠ some k
theorem Sep.symm {u v : Value} (h : Sep u v) : Sep v u := fun k hk hu => h k hu hk
theorem sep_nil : Sep (.slice none 0 0) (.slice none 0 0) := fun k hk => by cases hk
theorem own_apart {w w2 : World} {B : Nat} {u v : Value} {l : Ls} (ha : OwT w B tS u l) (hg : w.grownBy w2 v.ownBlock) (hs : Sep u v) : OwT w2 B tS u l := by
  refine World.ownsRow.kept ha hg ?_
  cases hu : u.ownBlock with
  | none => exact .inl rfl
  | some k => exact .inr fun e => hs k hu e.symm
theorem sep_next {w : World} {B : Nat} {u v v' : Value} {l : Ls} (ha : OwT w B tS u l) (hs : Sep u v) (h : v'.ownBlock = v.ownBlock ∨ v'.ownBlock = some (w.heap.size + 1)) : Sep u v' := by
  intro k hk
  rcases h with h | h
  · rw [h]; exact hs k hk
  · rw [h]
    have := (World.ownsRow.lt ha k hk).2
    intro e
    injection e with e
    omega
/-- a line k times, with n and e others around -/
def full (n e : Nat) (c z : List UInt8) : Ls := List.replicate n z ++ (List.replicate 300 c ++ List.replicate e z)
theorem full_len (n e : Nat) (c z : List UInt8) : (full n e c z).length = 300 + n + e := by
  unfold full
  rw [List.length_append, List.length_append, List.length_replicate, List.length_replicate, List.length_replicate]; omega
theorem full_at (n e : Nat) (c z : List UInt8) (i : Nat) (hi : i < 300 + n + e) : (full n e c z).getD i [] = if i < n ∨ n + 300 ≤ i then z else c := by
  unfold full
  rcases Nat.lt_or_ge i n with h | h
  · rw [if_pos (.inl h), getD_front _ _ _ (by rw [List.length_replicate]; exact h), getD_rep _ _ _ h]
  · rcases Nat.lt_or_ge i (n + 300) with h2 | h2
    · rw [if_neg (by omega)]
      have := getD_mid (List.replicate n z) (List.replicate 300 c) (List.replicate e z) (i - n) (by rw [List.length_replicate]; omega)
      rw [List.length_replicate, show n + (i - n) = i from by omega] at this
      rw [this, getD_rep _ _ _ (by omega)]
    · rw [if_pos (.inr h2)]
      have := getD_back (List.replicate n z) (List.replicate 300 c) (List.replicate e z) (i - n - 300)
      rw [List.length_replicate, List.length_replicate, show n + (300 + (i - n - 300)) = i from by omega] at this
      rw [this, getD_rep _ _ _ (by omega)]
theorem full_snoc (n e : Nat) (c z : List UInt8) (i : Nat) (hi : i < 300 + n + e) : (full n e c z).take (i + 1) = (full n e c z).take i ++ [if i < n ∨ n + 300 ≤ i then z else c] := by
  rw [List.take_succ_eq_append_getElem (by rw [full_len]; exact hi), ← full_at n e c z i hi]
  simp [List.getElem?_eq_getElem (show i < (full n e c z).length by rw [full_len]; exact hi)]
theorem beq_ne {x y : List UInt8} (h : x ≠ y) : (x == y) = false := by rw [beq_eq_false_iff_ne]; exact h

set_option maxHeartbeats 2000000 in
set_option maxRecDepth 100000 in
theorem long_any (x y : List UInt8) (p q : Nat) (w : World) (hp : p < 256) (hq : q < 256) (hx : x.length ≤ 1000000000000000) (hy : y.length ≤ 1000000000000000) :
    Calls Try.prog 4 #[.string ⟨x.toArray⟩, .string ⟨y.toArray⟩, .int .u8 (p : Int), .int .u8 (q : Int)] w fun r w' => r = .returned (.bool true) ∧ Below w.heap.size w w' := by
  by_cases hxy : x = y
  · have hb : (x == y) = true := by rw [hxy]; exact beq_self_eq_true _
    clear hxy
    go_enter Try.func4, Try.ntmps4
    go_wp2_with fail
    refine (awake_any w).mono ?_
    rintro r w1 ⟨rfl, hb1⟩
    go_wp2
    go_ret
    exact ⟨rfl, hb1⟩
  have hbe := beq_ne hxy
  obtain ⟨z, hz⟩ : ∃ z, z = x ++ y ++ [61] := ⟨_, rfl⟩
  have hxz := beq_ne (show x ≠ z by intro h; have := congrArg List.length h; rw [hz, List.length_append, List.length_append] at this; simp only [List.length_cons, List.length_nil] at this; omega)
  have hyz := beq_ne (show y ≠ z by intro h; have := congrArg List.length h; rw [hz, List.length_append, List.length_append] at this; simp only [List.length_cons, List.length_nil] at this; omega)
  have ea1 := app_txt x y
  have ea2 := app_txt (x ++ y) [61]
  rw [← hz] at ea2
  obtain ⟨xy, hxy2⟩ : ∃ xy, xy = x ++ y := ⟨_, rfl⟩
  have hxyl : xy.length ≤ 2000000000000000 := by rw [hxy2, List.length_append]; omega
  rw [← hxy2] at ea1 ea2
  obtain ⟨n, hn⟩ : ∃ n, n = p % 11 := ⟨_, rfl⟩
  obtain ⟨e, he⟩ : ∃ e, e = q % 11 := ⟨_, rfl⟩
  have hn' : (p : Int) % 11 = (n : Int) := by omega
  have he' : (q : Int) % 11 = (e : Int) := by omega
  have hn10 : n ≤ 10 := by omega
  have he10 : e ≤ 10 := by omega
  have HD := hide (D_long n e 300 x y z hxy (by omega))
  have Hz := hide hz
  clear hxy hxy2 hn he hz
  go_enter Try.func4, Try.ntmps4
  go_wp2_with fail
  refine (awake_any w).mono ?_
  rintro r w1 ⟨rfl, hb1⟩
  have Hb1 := hide hb1
  clear hb1
  go_wp2
  rw [hn']
  clear hn'
  go_loopw [10, 11, 13] (fun va vb vi wr => ∃ (i : Nat) (ua ub : Value), ua = va ∧ ub = vb ∧ i ≤ 300 + n + e ∧ vi = .int .i64 i ∧ OwT wr w.heap.size tS ua ((full n e x z).take i) ∧ OwT wr w.heap.size tS ub ((full n e y z).take i) ∧ Sep ua ub ∧ Below w.heap.size w wr) (fun _ _ vi _ => 300 + n + e - (intOf vi).toNat)
  case atStart => exact ⟨0, _, _, rfl, rfl, Nat.zero_le _, rfl, OwT.nil _ _ _, OwT.nil _ _ _, sep_nil, Hb1.out⟩
  case round =>
    obtain ⟨i, ua, ub, rfl, rfl, hi, rfl, hoa, hob, hse, hb⟩ := hrel
    have Hoa := hide hoa
    have Hob := hide hob
    have Hse := hide hse
    have Hb := hide hb
    clear hoa hob hse hb
    by_cases hlt : i < 300 + n + e
    · have Hfx := hide (full_snoc n e x z i hlt)
      have Hfy := hide (full_snoc n e y z i hlt)
      have Hla := hide (show ((full n e x z).take i).length ≤ 400 by rw [List.length_take]; omega)
      have Hlb := hide (show ((full n e y z).take i).length ≤ 400 by rw [List.length_take]; omega)
      obtain ⟨la, hla⟩ : ∃ la, la = (full n e x z).take i := ⟨_, rfl⟩
      obtain ⟨lb, hlb⟩ : ∃ lb, lb = (full n e y z).take i := ⟨_, rfl⟩
      rw [← hla] at Hoa Hfx Hla
      rw [← hlb] at Hob Hfy Hlb
      clear hla hlb
      rcases Nat.lt_or_ge i n with h1 | h1
      · have d1 : decide (i < n) = true := decide_eq_true h1
        have Hfx2 := hide (show (full n e x z).take (i + 1) = la ++ [z] by rw [Hfx.out, if_pos (.inl h1)])
        have Hfy2 := hide (show (full n e y z).take (i + 1) = lb ++ [z] by rw [Hfy.out, if_pos (.inl h1)])
        clear Hfx Hfy
        go_wp2_with (first | (refine wpList_pushT rfl (.tmp 48) (.tmp 50) rfl w.heap.size w _ lb z _ rfl rfl rfl Hob.out (by have := Hlb.out; omega) Hb.out Hb.out.size ?_; intro vb w2 hob2 hb2 hg2 hbl2; have Hob2 := hide hob2; have Hoa2 := hide (own_apart Hoa.out hg2 Hse.out); have Hse2 := hide (sep_next Hoa.out Hse.out hbl2); have Hb2 := hide hb2; clear hob2 hb2 hg2 hbl2) | (refine wpList_pushT rfl (.tmp 61) (.tmp 63) rfl w.heap.size w _ la z _ rfl rfl rfl Hoa2.out (by have := Hla.out; omega) Hb2.out Hb2.out.size ?_; intro va w3 hoa3 hb3 hg3 hbl3; have Hoa3 := hide hoa3; have Hob3 := hide (own_apart Hob2.out hg3 Hse2.out.symm); have Hse3 := hide (sep_next Hob2.out Hse2.out.symm hbl3).symm; have Hb3 := hide hb3; clear hoa3 hb3 hg3 hbl3))
        exact ⟨⟨i + 1, _, _, rfl, rfl, by omega, by go_num, by rw [Hfx2.out]; exact Hoa3.out, by rw [Hfy2.out]; exact Hob3.out, Hse3.out, Hb3.out⟩, by simp [intOf]; omega⟩
      rcases Nat.lt_or_ge i (n + 300) with h2 | h2
      · have d1 : decide (i < n) = false := decide_eq_false (by omega)
        have d2 : decide ((n : Int) + 300 ≤ (i : Int)) = false := decide_eq_false (by omega)
        have Hfx2 := hide (show (full n e x z).take (i + 1) = la ++ [x] by rw [Hfx.out, if_neg (by omega)])
        have Hfy2 := hide (show (full n e y z).take (i + 1) = lb ++ [y] by rw [Hfy.out, if_neg (by omega)])
        clear Hfx Hfy
        go_wp2_with (first | (refine wpList_pushT rfl (.tmp 48) (.tmp 50) rfl w.heap.size w _ lb y _ rfl rfl rfl Hob.out (by have := Hlb.out; omega) Hb.out Hb.out.size ?_; intro vb w2 hob2 hb2 hg2 hbl2; have Hob2 := hide hob2; have Hoa2 := hide (own_apart Hoa.out hg2 Hse.out); have Hse2 := hide (sep_next Hoa.out Hse.out hbl2); have Hb2 := hide hb2; clear hob2 hb2 hg2 hbl2) | (refine wpList_pushT rfl (.tmp 65) (.tmp 67) rfl w.heap.size w _ la x _ rfl rfl rfl Hoa2.out (by have := Hla.out; omega) Hb2.out Hb2.out.size ?_; intro va w3 hoa3 hb3 hg3 hbl3; have Hoa3 := hide hoa3; have Hob3 := hide (own_apart Hob2.out hg3 Hse2.out.symm); have Hse3 := hide (sep_next Hob2.out Hse2.out.symm hbl3).symm; have Hb3 := hide hb3; clear hoa3 hb3 hg3 hbl3))
        exact ⟨⟨i + 1, _, _, rfl, rfl, by omega, by go_num, by rw [Hfx2.out]; exact Hoa3.out, by rw [Hfy2.out]; exact Hob3.out, Hse3.out, Hb3.out⟩, by simp [intOf]; omega⟩
      · have d1 : decide (i < n) = false := decide_eq_false (by omega)
        have d2 : decide ((n : Int) + 300 ≤ (i : Int)) = true := decide_eq_true (by omega)
        have Hfx2 := hide (show (full n e x z).take (i + 1) = la ++ [z] by rw [Hfx.out, if_pos (.inr h2)])
        have Hfy2 := hide (show (full n e y z).take (i + 1) = lb ++ [z] by rw [Hfy.out, if_pos (.inr h2)])
        clear Hfx Hfy
        go_wp2_with (first | (refine wpList_pushT rfl (.tmp 48) (.tmp 50) rfl w.heap.size w _ lb z _ rfl rfl rfl Hob.out (by have := Hlb.out; omega) Hb.out Hb.out.size ?_; intro vb w2 hob2 hb2 hg2 hbl2; have Hob2 := hide hob2; have Hoa2 := hide (own_apart Hoa.out hg2 Hse.out); have Hse2 := hide (sep_next Hoa.out Hse.out hbl2); have Hb2 := hide hb2; clear hob2 hb2 hg2 hbl2) | (refine wpList_pushT rfl (.tmp 61) (.tmp 63) rfl w.heap.size w _ la z _ rfl rfl rfl Hoa2.out (by have := Hla.out; omega) Hb2.out Hb2.out.size ?_; intro va w3 hoa3 hb3 hg3 hbl3; have Hoa3 := hide hoa3; have Hob3 := hide (own_apart Hob2.out hg3 Hse2.out.symm); have Hse3 := hide (sep_next Hob2.out Hse2.out.symm hbl3).symm; have Hb3 := hide hb3; clear hoa3 hb3 hg3 hbl3))
        exact ⟨⟨i + 1, _, _, rfl, rfl, by omega, by go_num, by rw [Hfx2.out]; exact Hoa3.out, by rw [Hfy2.out]; exact Hob3.out, Hse3.out, Hb3.out⟩, by simp [intOf]; omega⟩
    · obtain rfl : i = 300 + n + e := by omega
      have hfa := full_len n e x z
      have hfb := full_len n e y z
      have hoa := Hoa.out
      have hob := Hob.out
      rw [List.take_of_length_le (by omega)] at hoa
      rw [List.take_of_length_le (by omega)] at hob
      obtain ⟨Aa, ca, rfl, hva⟩ := OwT.vs hoa
      obtain ⟨Ab, cb, rfl, hvb⟩ := OwT.vs hob
      have Hva := hide (Lw.Vs.bound hva)
      have Hvb := hide (Lw.Vs.bound hvb)
      have hcb := hvb.1
      rw [texts_len, hfb] at hcb
      have HDD := hide (show D (full n e x z) (full n e y z) = [⟨n, 300, List.replicate 300 y⟩] from HD.out)
      have Hdi := hide (diff_any (full n e x z) (full n e y z) Aa Ab ca cb _ _ wr Hva.out Hvb.out (by omega) (by omega))
      have Hfm := hide (show ((full n e y z).drop n).take 300 = List.replicate 300 y by
        unfold full
        rw [List.drop_left' (by rw [List.length_replicate]), List.take_left' (by rw [List.length_replicate])])
      have Hcut := hide (vs_cut Hvb.out (i := n) (j := n + 300) (by omega) (by omega))
      obtain ⟨fa, hfae⟩ : ∃ fa, fa = full n e x z := ⟨_, rfl⟩
      obtain ⟨fb, hfbe⟩ : ∃ fb, fb = full n e y z := ⟨_, rfl⟩
      rw [← hfae] at hfa Hva Hdi HDD ⊢
      rw [← hfbe] at hfb Hvb Hdi HDD Hfm Hcut ⊢
      rw [hfa] at Hdi ⊢
      rw [hfb] at Hdi ⊢
      rw [HDD.out] at Hdi
      rw [show n + 300 - n = 300 from by omega, Hfm.out] at Hcut
      clear hoa hob hva hvb hfae hfbe hfa hfb Hoa Hob
      go_wp2_with fail
      refine Hdi.out.mono ?_
      rintro r w2 ⟨v, rfl, hv, hb2⟩
      obtain ⟨Al, cl, rfl, he⟩ := OwE.es hv
      obtain ⟨b, o, e1, Ae, ce, rfl, hke, ⟨c0, c1, c2⟩, hv2⟩ := he.at (Below.refl _ _) (k := 0) (by simp)
      simp at hke
      subst hke
      simp only [Nat.zero_mul, Nat.add_zero] at c0 c1 c2
      obtain ⟨R, hR⟩ : ∃ R, R = List.replicate 300 y := ⟨_, rfl⟩
      have Hve := hide (show Vs w2 (fun b => b < w2.heap.size) Ae ce (texts R) by rw [hR]; exact hv2)
      rw [← hR] at Hcut
      have hRl : R.length = 300 := by rw [hR, List.length_replicate]
      have HR := hide hRl
      have Hcut2 := hide (Lw.Vs.below Hcut.out hb2)
      have Hb2 := hide (Hb.out.trans (hb2.mono Hb.out.size))
      obtain ⟨A2, hA2⟩ : ∃ A2, (if cb = n then Ab else Ab.map (·.add n)) = A2 := ⟨_, rfl⟩
      rw [hA2] at Hcut2
      have hrun := fun w => run_cut2 w Ab (300 + n + e) cb n (n + 300) (by omega) (by omega)
      simp only [hA2, show n + 300 - n = 300 from by omega] at hrun
      obtain ⟨n3, hn3⟩ : ∃ n3, n3 = n + 300 := ⟨_, rfl⟩
      rw [← hn3] at hrun
      have hw1 : IntKind.i64.wrap ((n : Int) + 300) = (n3 : Int) := by rw [IntWalk.i64_in _ (by omega)]; omega
      clear hv hv2 hb2 hA2 hR hRl hn3 he
      simp only [List.length_cons, List.length_nil, Nat.zero_add]
      go_wp2
      refine Rg.wp_region_ord (fun w' => w'.cell? ⟨b, o, none⟩ = some (.int .i64 (n : Int)) ∧ w'.cell? ⟨b, o + 1, none⟩ = some (.int .i64 300) ∧ w'.cell? ⟨b, o + 2, none⟩ = some (.slice Ae 300 ce)) [(0, true), (1, true), (2, true), (3, true), (4, true), (5, true), (6, true), (7, true), (8, true), (9, true), (10, true), (11, true), (12, true), (13, true), (14, true), (15, true), (16, true), (17, true), (18, true), (19, true), (20, true), (21, true), (22, true), (23, true), (24, true), (25, true), (26, true), (27, true), (28, true), (29, true), (30, true), (31, false), (32, true), (33, true)] (by kernel_rfl) (by kernel_rfl) ?_
      simp only [Rg.pick, List.map_cons, List.map_nil, List.getD_cons_zero, List.getD_cons_succ]
      iterate 2 (refine Rg.ord_quiet (v := ?_) rfl (fun w' hS => ?_) ⟨c0, c1, c2⟩ ?_; rotate_left; (obtain ⟨s0, s1, s2⟩ := hS; go_simp; with_reducible rfl); simp only [Act.put, List.setIfInBounds_toArray, List.set_cons_succ, List.set_cons_zero])
      iterate 3 (refine Rg.ord_guarded (v := ?_) (by rfl) (fun w' hS => ?_) ⟨c0, c1, c2⟩ ?_; rotate_left; (obtain ⟨s0, s1, s2⟩ := hS; go_simp; with_reducible rfl); simp only [Act.put, List.setIfInBounds_toArray, List.set_cons_succ, List.set_cons_zero])
      iterate 2 (refine Rg.ord_quiet (v := ?_) rfl (fun w' hS => ?_) ⟨c0, c1, c2⟩ ?_; rotate_left; (obtain ⟨s0, s1, s2⟩ := hS; go_simp; with_reducible rfl); simp only [Act.put, List.setIfInBounds_toArray, List.set_cons_succ, List.set_cons_zero])
      iterate 6 (refine Rg.ord_guarded (v := ?_) (by rfl) (fun w' hS => ?_) ⟨c0, c1, c2⟩ ?_; rotate_left; (obtain ⟨s0, s1, s2⟩ := hS; go_simp; with_reducible rfl); simp only [Act.put, List.setIfInBounds_toArray, List.set_cons_succ, List.set_cons_zero])
      iterate 2 (refine Rg.ord_quiet (v := ?_) rfl (fun w' hS => ?_) ⟨c0, c1, c2⟩ ?_; rotate_left; (obtain ⟨s0, s1, s2⟩ := hS; go_simp; with_reducible rfl); simp only [Act.put, List.setIfInBounds_toArray, List.set_cons_succ, List.set_cons_zero])
      iterate 5 (refine Rg.ord_guarded (v := ?_) (by rfl) (fun w' hS => ?_) ⟨c0, c1, c2⟩ ?_; rotate_left; (obtain ⟨s0, s1, s2⟩ := hS; go_simp; with_reducible rfl); simp only [Act.put, List.setIfInBounds_toArray, List.set_cons_succ, List.set_cons_zero])
      iterate 2 (refine Rg.ord_quiet (v := ?_) rfl (fun w' hS => ?_) ⟨c0, c1, c2⟩ ?_; rotate_left; (obtain ⟨s0, s1, s2⟩ := hS; go_simp; with_reducible rfl); simp only [Act.put, List.setIfInBounds_toArray, List.set_cons_succ, List.set_cons_zero])
      iterate 9 (refine Rg.ord_guarded (v := ?_) (by rfl) (fun w' hS => ?_) ⟨c0, c1, c2⟩ ?_; rotate_left; (obtain ⟨s0, s1, s2⟩ := hS; go_simp; with_reducible rfl); simp only [Act.put, List.setIfInBounds_toArray, List.set_cons_succ, List.set_cons_zero])
      refine Rg.ord_loud (by rfl) (fun K hK => ?_)
      go_simp
      refine Calls.mono (show Calls Try.prog 16 #[.slice Ae 300 ce, .slice A2 300 (cb - n)] w2.drew _ from by
        have := texts_any R R Ae A2 ce (cb - n) _ _ w2.drew (vs_drew Hve.out) (vs_drew Hcut2.out) (by have := HR.out; omega)
        rw [HR.out] at this
        exact this) ?_
      rintro r w3 ⟨rfl, hb3⟩
      have d0 := cell_keep hb3 c0
      have d1 := cell_keep hb3 c1
      have d2 := cell_keep hb3 c2
      have Hb3 := hide (Hb2.out.drew.trans (hb3.mono Hb2.out.size))
      clear hb3 c0 c1 c2
      simp only [decide_true]
      refine hK _ _ (fun _ => ⟨d0, d1, d2⟩) ?_
      clear hK K
      iterate 1 (refine Rg.ord_guarded (v := ?_) (by rfl) (fun w' hS => ?_) ⟨d0, d1, d2⟩ ?_; rotate_left; (obtain ⟨s0, s1, s2⟩ := hS; go_simp; with_reducible rfl); simp only [Act.put, List.setIfInBounds_toArray, List.set_cons_succ, List.set_cons_zero])
      iterate 1 (refine Rg.ord_quiet (v := ?_) rfl (fun w' hS => ?_) ⟨d0, d1, d2⟩ ?_; rotate_left; (obtain ⟨s0, s1, s2⟩ := hS; go_simp; with_reducible rfl); simp only [Act.put, List.setIfInBounds_toArray, List.set_cons_succ, List.set_cons_zero])
      refine Rg.ord_nil ?_
      go_wp2
      go_ret
      exact ⟨rfl, Hb3.out⟩
end Go.Proofs.Ytcilenppjpnaoaa.Df
