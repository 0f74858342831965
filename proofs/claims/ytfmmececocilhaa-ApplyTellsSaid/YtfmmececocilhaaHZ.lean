/-
  The reference's Turn.
-/
import Derived.Test.YtfmmececocilhaaHY
namespace Go.Proofs.Ytfmmececocilhaa.Hu
open Go Go.RowKit Kt Lw Li Df

/-- of some lines those with a sign, without it -/
def pickS (s : UInt8) (l : Ls) : Ls := (l.filter fun x => decide (sg x = s)).map List.tail
theorem pickS_snoc_yes (s : UInt8) (l : Ls) (x : List UInt8) (h : sg x = s) : pickS s (l ++ [x]) = pickS s l ++ [x.tail] := by
  unfold pickS; rw [List.filter_append]; simp [h]
theorem pickS_snoc_no (s : UInt8) (l : Ls) (x : List UInt8) (h : sg x ≠ s) : pickS s (l ++ [x]) = pickS s l := by
  unfold pickS; rw [List.filter_append]; simp [h]
theorem pickS_cons (s : UInt8) (l : Ls) (x : List UInt8) : pickS s (x :: l) = (if sg x = s then [x.tail] else []) ++ pickS s l := by
  unfold pickS
  by_cases h : sg x = s
  · simp [h]
  · simp [h]
theorem pickS_len (s : UInt8) (l : Ls) : (pickS s l).length ≤ l.length := by
  unfold pickS
  rw [List.length_map]
  exact List.length_filter_le _ _
theorem turnA_run : ∀ (run X c g : Ls), (∀ x ∈ run, sg x = 45 ∨ sg x = 43) → turnA c g (run ++ X) = turnA (c ++ pickS 43 run) (g ++ pickS 45 run) X
  | [], X, c, g, _ => by simp [pickS]
  | x :: run, X, c, g, h => by
    have ih := fun c g => turnA_run run X c g fun y hy => h y (List.mem_cons_of_mem _ hy)
    rw [List.cons_append, turnA, pickS_cons, pickS_cons]
    rcases h x (List.mem_cons_self ..) with hx | hx
    · rw [hx, if_neg (by decide), if_neg (by decide), ih]
      simp
    · rw [hx, if_neg (by decide), if_pos rfl, ih]
      simp
theorem run_snoc (L : Ls) (i j : Nat) (hij : i ≤ j) (hj : j < L.length) : (L.drop i).take (j + 1 - i) = (L.drop i).take (j - i) ++ [L.getD j []] := by
  rw [show j + 1 - i = (j - i) + 1 by omega, List.take_succ_eq_append_getElem (by rw [List.length_drop]; omega)]
  simp [List.getElem?_eq_getElem hj, show i + (j - i) = j by omega]
theorem run_mem (L : Ls) (i k : Nat) (P : List UInt8 → Prop) (hk : k ≤ L.length) (h : ∀ j, i ≤ j → j < k → P (L.getD j [])) : ∀ x ∈ (L.drop i).take (k - i), P x := by
  intro x hx
  obtain ⟨n, hn, he⟩ := List.getElem_of_mem hx
  rw [List.length_take, List.length_drop] at hn
  have := h (i + n) (by omega) (by omega)
  rw [← he]
  simpa [List.getElem_take, List.getElem_drop, List.getElem?_eq_getElem (show i + n < L.length by omega)] using this
theorem turn_end (L : Ls) (i : Nat) (_hi : i ≤ L.length) (h : ∀ x ∈ (L.drop i).take (L.length - i), sg x = 45 ∨ sg x = 43) : turnA [] [] (L.drop i) = mk 45 (pickS 43 ((L.drop i).take (L.length - i))) ++ mk 43 (pickS 45 ((L.drop i).take (L.length - i))) := by
  have e : (L.drop i).take (L.length - i) = L.drop i := List.take_of_length_le (by rw [List.length_drop]; omega)
  rw [e] at h ⊢
  have := turnA_run (L.drop i) [] [] [] h
  rw [List.append_nil] at this
  rw [this, turnA]; simp
theorem turn_mid (L : Ls) (i k : Nat) (hik : i ≤ k) (hk : k < L.length) (h : ∀ x ∈ (L.drop i).take (k - i), sg x = 45 ∨ sg x = 43) (h32 : sg (L.getD k []) = 32) :
    turnA [] [] (L.drop i) = ((mk 45 (pickS 43 ((L.drop i).take (k - i))) ++ mk 43 (pickS 45 ((L.drop i).take (k - i)))) ++ [L.getD k []]) ++ turnA [] [] (L.drop (k + 1)) := by
  have e : L.drop i = (L.drop i).take (k - i) ++ (L.getD k [] :: L.drop (k + 1)) := by
    conv => lhs; rw [← List.take_append_drop (k - i) (L.drop i)]
    rw [List.drop_drop, show i + (k - i) = k by omega, List.drop_eq_getElem_cons hk]
    simp [List.getElem?_eq_getElem hk]
  conv => lhs; rw [e]
  rw [turnA_run _ _ _ _ h, turnA, if_pos h32]
  simp

theorem turnA_len : ∀ (l c g : Ls), (turnA c g l).length = c.length + g.length + l.length
  | [], c, g => by rw [turnA, List.length_append, mk_len, mk_len]; simp
  | x :: l, c, g => by
    rw [turnA]
    split
    · rw [List.length_append, List.length_append, mk_len, mk_len, List.length_cons, turnA_len l, List.length_cons, List.length_nil]; omega
    · split
      · rw [turnA_len l]; simp; omega
      · rw [turnA_len l]; simp; omega
set_option maxHeartbeats 2000000 in
set_option maxRecDepth 100000 in
theorem refTurn_any (ha han hb hbn : Int) (L : Ls) (A : Option Addr) (c : Nat) (P : Nat → Prop) (w : World) (hs : Vs w P A c (texts L)) (hn : L.length ≤ 100000) (hok : okF false L = true) (hx : ∀ x ∈ L, x.length ≤ 9223372036854775807) :
    Calls Try.prog 28 #[.agg #[.int .i64 ha, .int .i64 han, .int .i64 hb, .int .i64 hbn, .slice A L.length c]] w fun y w' => ∃ v, y = .returned (.agg #[.int .i64 hb, .int .i64 hbn, .int .i64 ha, .int .i64 han, v]) ∧ OwT w' w.heap.size tS v (turnA [] [] L) ∧ Below w.heap.size w w' := by
  have Hs := hide hs.bound
  have Hall := hide (okF_all L false hok)
  have Hx := hide hx
  obtain ⟨N, hN⟩ : ∃ N, N = L.length := ⟨_, rfl⟩
  obtain ⟨T, hT⟩ : ∃ T, T = turnA [] [] L := ⟨_, rfl⟩
  rw [← hN] at hn ⊢
  rw [← hT]
  have HN := hide hN
  have HT := hide hT
  have Hblk := hide (show ∀ b o, A = some ⟨b, o, none⟩ → ∀ j, j < N → b < w.heap.size from fun b o hA j hj => by
    obtain ⟨b', o', hA', hlt, _⟩ := hs.2 (by rw [texts_len, ← hN]; omega)
    obtain ⟨b2, o2, hA2, hlt2, _⟩ := hs.bound.2 (by rw [texts_len, ← hN]; omega)
    rw [hA] at hA2
    injection hA2 with hA2
    injection hA2 with h1 h2 h3
    rw [h1]; exact hlt2)
  have Hline := hide (show ∀ j, j < N → ∃ t s, L.getD j [] = s :: t ∧ (s = 32 ∨ s = 45 ∨ s = 43) ∧ t.length ≤ 9223372036854775806 from fun j hj => by
    have hjL : j < L.length := by omega
    have hm : L.getD j [] ∈ L := by simp [List.getElem?_eq_getElem hjL]
    have h1 := Hall.out _ hm
    have h2 := hx _ hm
    cases hl : L.getD j [] with
    | nil => rw [hl] at h1; rcases h1 with h | h | h <;> exact absurd h (by decide)
    | cons s t =>
      rw [hl] at h1 h2
      exact ⟨t, s, rfl, h1, by simp at h2; omega⟩)
  have Hline2 := hide (show ∀ j, j < N → L.getD j [] ≠ [] ∧ (L.getD j []).tail.length ≤ 9223372036854775806 from fun j hj => by
    obtain ⟨t, s, h1, h2, h3⟩ := Hline.out j hj
    rw [h1]
    exact ⟨by simp, h3⟩)
  clear hs hN hT hok hx
  go_enter Try.func28, Try.ntmps28
  go_wp2
  obtain ⟨wp, hwp⟩ : ∃ wp, wp = ((w.alloc (.cells #[.int .i64 ha, .int .i64 han, .int .i64 hb, .int .i64 hbn, .slice A N c] tH)).alloc (.cells #[.int .i64 0, .int .i64 0, .int .i64 0, .int .i64 0, .slice none 0 0] tH)).alloc (.cells #[.int .i64 hb, .int .i64 hbn, .int .i64 ha, .int .i64 han, .slice none 0 0] tH) := ⟨_, rfl⟩
  have hbp : Below w.heap.size w wp := by rw [hwp]; exact (((Below.refl _ w).alloc (Nat.le_refl _) _).alloc (by simp) _).alloc (by simp; omega) _
  have hr1 : Row wp w.heap.size tH [.int .i64 ha, .int .i64 han, .int .i64 hb, .int .i64 hbn, .slice A N c] := by rw [hwp]; exact ((Row.fresh w tH _).alloc _).alloc _
  have hr2 : Row wp (w.heap.size + 1) tH [.int .i64 0, .int .i64 0, .int .i64 0, .int .i64 0, .slice none 0 0] := by rw [hwp]; exact (Row.new _ tH (by simp) rfl).alloc _
  have hr3 : Row wp (w.heap.size + 1 + 1) tH [.int .i64 hb, .int .i64 hbn, .int .i64 ha, .int .i64 han, .slice none 0 0] := by rw [hwp]; exact Row.new _ tH (by simp) rfl
  rw [← hwp]
  obtain ⟨g1, hg1⟩ : ∃ g1, g1 = w.heap.size := ⟨_, rfl⟩
  obtain ⟨g2, hg2⟩ : ∃ g2, g2 = w.heap.size + 1 := ⟨_, rfl⟩
  obtain ⟨g3, hg3⟩ : ∃ g3, g3 = w.heap.size + 1 + 1 := ⟨_, rfl⟩
  have hg2w : w.heap.size ≤ g2 := by omega
  have hg3w : w.heap.size ≤ g3 := by omega
  have hg23 : g2 ≠ g3 := by omega
  have hg13 : g1 ≠ g3 := by omega
  rw [← hg3] at hr3 ⊢
  rw [← hg2] at hr2 ⊢
  rw [← hg1] at hr1 ⊢
  have HT0 := hide (show HS w wp wp g3 (.int .i64 hb) (.int .i64 hbn) (.int .i64 ha) (.int .i64 han) (.slice none 0 0) [] from ⟨hr3, OwT.nil _ _ _, World.grownBy.refl _ _, hbp, hg3w, hr3.lt⟩)
  have Hr1 := hide hr1
  have Hr2 := hide hr2
  have HTl := hide (show T.length ≤ 100000 by rw [HT.out, turnA_len]; have := HN.out; simp; omega)
  clear hwp hbp hr1 hr2 hr3 hg1 hg2 hg3
  go_loopw [4] (fun y wr => ∃ (i : Nat) (v : Value) (Lc : Ls), i ≤ N + 1 ∧ y = .int .i64 i ∧ Lc ++ turnA [] [] (L.drop i) = T ∧ HS w wp wr g3 (.int .i64 hb) (.int .i64 hbn) (.int .i64 ha) (.int .i64 han) v Lc) (fun y _ => N + 1 - (intOf y).toNat)
  case atStart => exact ⟨0, _, [], by omega, rfl, HT.out.symm, HT0.out⟩
  case round =>
    obtain ⟨i, v, Lc, hi, rfl, hpre, hT⟩ := hrel
    have HS1 := hide hT
    have Hpre := hide hpre
    have hrw1 : Row wr g1 tH [.int .i64 ha, .int .i64 han, .int .i64 hb, .int .i64 hbn, .slice A N c] := (hT.far.block g1 Hr1.out.lt (fun e => by injection e with e; omega)).trans Hr1.out
    have c4 := hrw1.cell 4
    simp only [List.getElem?_cons_zero, List.getElem?_cons_succ] at c4
    clear hT hpre hrw1
    by_cases hlt : i < N
    · have HcL := hide (show Lc.length ≤ 100000 by
        have h1 := congrArg List.length Hpre.out
        rw [List.length_append] at h1
        have := HTl.out
        omega)
      go_wp2
      go_loopw [5] (fun y wr' => ∃ k : Nat, (i ≤ k ∧ k ≤ N) ∧ y = .int .i64 k ∧ (∀ j, i ≤ j → j < k → sg (L.getD j []) ≠ 32) ∧ wr' = wr) (fun y _ => N - (intOf y).toNat)
      case atStart => exact ⟨i, ⟨Nat.le_refl _, by omega⟩, rfl, (fun j h1 h2 => by omega), rfl⟩
      case round =>
        obtain ⟨k, ⟨hik, hkN⟩, rfl, hno, hwe⟩ := hrel
        subst hwe
        have Hno := hide hno
        clear hno
        by_cases hmore : k < N ∧ sg (L.getD k []) ≠ 32
        · obtain ⟨hk, h32⟩ := hmore
          obtain ⟨b, o, hA, ck⟩ := Hs.out.text HS1.out.low (k := k) (by have := HN.out; omega)
          subst hA
          obtain ⟨t, s, hxs, hs3, htl⟩ := Hline.out k hk
          have Hno2 := hide (show ∀ j, i ≤ j → j < k + 1 → sg (L.getD j []) ≠ 32 from fun j h1 h2 => by
            rcases Nat.lt_or_ge j k with h | h
            · exact Hno.out j h1 h
            · obtain rfl : j = k := by omega
              exact h32)
          rw [hxs] at ck h32
          rw [sg_mk] at h32
          have hsz := size_of (s :: t)
          have hg := get_at (s :: t) 0 (by rw [hsz]; simp)
          rw [sg_get, sg_mk] at hg
          have e32 : ((s.toNat : Int) == 32) = false := u8_ne h32
          have n32 : ((s.toNat : Int) != 32) = true := by rw [bne, e32]; rfl
          clear hxs hs3 htl h32
          go_wp2
          exact ⟨⟨k + 1, ⟨by omega, by omega⟩, by go_num, Hno2.out, trivial⟩, by simp [intOf]; omega⟩
        · have Hend := hide (show k = N ∨ (k < N ∧ sg (L.getD k []) = 32) by
            by_cases hk : k < N
            · by_cases h : sg (L.getD k []) = 32
              · exact .inr ⟨hk, h⟩
              · exact absurd ⟨hk, h⟩ hmore
            · exact .inl (by omega))
          have Hrun := hide (show ∀ x ∈ (L.drop i).take (k - i), sg x = 45 ∨ sg x = 43 from run_mem L i k _ (by have := HN.out; omega) fun j h1 h2 => by
            obtain ⟨t, s, hxs, hs3, _⟩ := Hline.out j (by omega)
            have := Hno.out j h1 h2
            rw [hxs, sg_mk] at this ⊢
            rcases hs3 with h | h | h
            · exact absurd h this
            · exact .inl h
            · exact .inr h)
          have hcond : (k < N → ∃ b o t, A = some ⟨b, o, none⟩ ∧ wr.cell? ⟨b, o + k, none⟩ = some (.string ⟨((32 :: t : List UInt8)).toArray⟩)) := fun hk => by
            obtain ⟨b, o, hA, ck⟩ := Hs.out.text HS1.out.low (k := k) (by have := HN.out; omega)
            obtain ⟨t, s, hxs, _, _⟩ := Hline.out k hk
            rcases Hend.out with h | ⟨_, h⟩
            · omega
            · rw [hxs, sg_mk] at h
              subst h
              exact ⟨b, o, t, hA, by rw [← hxs]; exact ck⟩
          clear hmore Hno
          by_cases hkN2 : k < N
          · obtain ⟨b, o, t, hA, ck⟩ := hcond hkN2
            subst hA
            have hsz := size_of (32 :: t)
            have hg := get_at (32 :: t) 0 (by rw [hsz]; simp)
            rw [sg_get, sg_mk] at hg
            clear hcond
            go_wp2
            clear ck hsz hg
            go_loopw [6] (fun y wr' => ∃ (j : Nat) (v' : Value), (i ≤ j ∧ j ≤ k) ∧ y = .int .i64 j ∧ HS w wp wr' g3 (.int .i64 hb) (.int .i64 hbn) (.int .i64 ha) (.int .i64 han) v' (Lc ++ mk 45 (pickS 43 ((L.drop i).take (j - i))))) (fun y _ => k - (intOf y).toNat)
            case atStart => exact ⟨i, _, ⟨Nat.le_refl _, by omega⟩, rfl, by simpa [pickS, mk_nil] using HS1.out⟩
            case round =>
              obtain ⟨j, v', ⟨hij, hjk⟩, rfl, hT⟩ := hrel
              have HSa := hide hT
              have hrw1 : Row wr g1 tH [.int .i64 ha, .int .i64 han, .int .i64 hb, .int .i64 hbn, .slice (some ⟨b, o, none⟩) N c] := (hT.far.block g1 Hr1.out.lt (fun e => by injection e with e; omega)).trans Hr1.out
              have c4 := hrw1.cell 4
              have Hrw1 := hide hrw1
              simp only [List.getElem?_cons_zero, List.getElem?_cons_succ] at c4
              clear hT hrw1
              by_cases hlj : j < k
              · obtain ⟨b', o', hA, ck⟩ := Hs.out.text HSa.out.low (k := j) (by have := HN.out; omega)
                injection hA with hA
                injection hA with hA1 hA2 _
                subst hA1 hA2
                obtain ⟨hxn, htl⟩ := Hline2.out j (by omega)
                have hrun := Hrun.out (L.getD j []) (by
                  have h1 := run_snoc L i j hij (by have := HN.out; omega)
                  have h2 : (L.drop i).take (j + 1 - i) <+: (L.drop i).take (k - i) := List.take_prefix_take_left (by omega)
                  exact h2.subset (by rw [h1]; exact List.mem_append_right _ (List.mem_singleton.2 rfl)))
                have Hsn := hide (run_snoc L i j hij (by have := HN.out; omega))
                obtain ⟨z, hz⟩ : ∃ z, z = L.getD j [] := ⟨_, rfl⟩
                rw [← hz] at ck hrun hxn htl Hsn
                clear hz
                have hzl0 : 0 < z.length := List.length_pos_iff.2 hxn
                have hsz := size_of z
                have hg := get_at z 0 (by rw [hsz]; exact hzl0)
                rw [sg_get] at hg
                have hct := cut_one_tail hxn
                obtain ⟨t', ht'⟩ : ∃ t', t' = z.tail := ⟨_, rfl⟩
                rw [← ht'] at hct htl
                have Ht' := hide ht'
                obtain ⟨s, hse⟩ : ∃ s, s = sg z := ⟨_, rfl⟩
                rw [← hse] at hg hrun
                have Hse := hide hse.symm
                clear ht' hse hxn
                have ea := app_txt [45] t'
                have hX1 : ¬ 9223372036854775807 < 1 + t'.length := by omega
                have hX2 : ¬ 9223372036854775807 < t'.length + 1 := by omega
                have hyl3 : 1 ≤ z.length := hzl0
                have hyl2 : (1 : Int) ≤ (z.length : Int) := by omega
                have hjN : j < N := by omega
                have hrl : ((L.drop i).take (j - i)).length ≤ 100000 := by rw [List.length_take, List.length_drop]; have := HN.out; omega
                have Hpl := hide (show (Lc ++ mk 45 (pickS 43 ((L.drop i).take (j - i)))).length ≤ 500000 by
                  rw [List.length_append, mk_len]
                  have h1 := pickS_len 43 ((L.drop i).take (j - i))
                  have h2 : (Lc).length ≤ 300000 := by have := HcL.out; omega
                  omega)
                clear hrl
                by_cases hsk : s = 43
                · have Hnx := hide (show Lc ++ mk 45 (pickS 43 ((L.drop i).take (j + 1 - i))) = (Lc ++ mk 45 (pickS 43 ((L.drop i).take (j - i)))) ++ [45 :: t'] by
                    rw [Hsn.out, pickS_snoc_yes _ _ _ (by rw [Hse.out]; exact hsk), mk_append, ← Ht'.out, ← List.append_assoc]; rfl)
                  rw [hsk] at hg
                  clear hrun hsk
                  go_wp2
                  have q4 := HSa.out.cells.2.2.2.2.1
                  have q1 := Hrw1.out.cell 4
                  simp only [List.getElem?_cons_zero, List.getElem?_cons_succ] at q1
                  refine Rg.wp_region_ord (fun w' => w'.cell? ⟨g3, 4, none⟩ = some v' ∧ w'.cell? ⟨g1, 4, none⟩ = some (.slice (some ⟨b, o, none⟩) N c) ∧ w'.cell? ⟨b, o + j, none⟩ = some (.string ⟨z.toArray⟩)) [(0, true), (1, true), (2, true), (3, true), (4, true), (5, true), (6, true), (7, true), (8, true), (9, false), (10, false), (11, true), (12, false)] (by kernel_rfl) (by kernel_rfl) ?_
                  simp only [Rg.pick, List.map_cons, List.map_nil, List.getD_cons_zero, List.getD_cons_succ]
                  iterate 9 (refine Rg.ord_quiet (v := ?_) rfl (fun w' hS => ?_) ⟨q4, q1, ck⟩ ?_; rotate_left; (obtain ⟨s4, s1, sk⟩ := hS; go_simp; with_reducible rfl); simp only [Act.put, List.setIfInBounds_toArray, List.set_cons_succ, List.set_cons_zero])
                  refine Rg.ord_loud rfl (fun K hK => ?_)
                  go_simp
                  refine hK _ _ (fun hf => ⟨cell_keep ((Below.refl _ _).alloc (Nat.le_refl _) _).drew q4, cell_keep ((Below.refl _ _).alloc (Nat.le_refl _) _).drew q1, cell_keep ((Below.refl _ _).alloc (Nat.le_refl _) _).drew ck⟩) ?_
                  clear hK K
                  refine Rg.ord_loud rfl (fun K hK => ?_)
                  have HSd := hide HSa.out.drew
                  refine wp_pushT (.tmp 53) (.tmp 61) rfl wp.heap.size wr.drew v' (Lc ++ mk 45 (pickS 43 ((L.drop i).take (j - i)))) (45 :: t') _ rfl rfl rfl HSd.out.own (by have := Hpl.out; omega) (Below.refl _ _) (by have := HSd.out.far.size; exact this) ?_
                  intro v7 w7 hv7 hb7 hg7 _
                  obtain ⟨A7, n7, c7, rfl⟩ := owt_form hv7
                  have e4 := (HSd.out.grown hg7).cell 4
                  have f4 := (HSd.out.grown hg7).free 4
                  have r1 := (Hrw1.out.drew.grown hg7 (fun e => row_ne Hrw1.out.drew tH_ne HSd.out.own g1 e.symm rfl)).cell 4
                  have ck7 : w7.cell? ⟨b, o + j, none⟩ = some (.string ⟨z.toArray⟩) := (World.cell?_of_block (w := wr.drew) (a := ⟨b, o + j, none⟩) (hg7.block b (World.block_lt_of_cell? wr.drew _ ck) (fun e => by have h1 := (World.ownsRow.lt HSd.out.own b e.symm).1; have h2 := HT0.out.low.size; have h3 := Hblk.out b o rfl j (by omega); omega))).trans ck
                  simp only [List.getElem?_cons_zero, List.getElem?_cons_succ] at e4 r1
                  have HS7 := hide (HSd.out.step hv7 hg7)
                  clear q4 q1 ck hv7 hb7 hg7
                  refine hK _ _ (fun _ => ⟨e4, r1, ck7⟩) ?_
                  clear hK K
                  try simp only [Act.put, List.setIfInBounds_toArray, List.set_cons_succ, List.set_cons_zero]
                  iterate 1 (refine Rg.ord_quiet (v := ?_) rfl (fun w' hS => ?_) ⟨e4, r1, ck7⟩ ?_; rotate_left; (obtain ⟨s4, s1, sk⟩ := hS; go_simp; with_reducible rfl); simp only [Act.put, List.setIfInBounds_toArray, List.set_cons_succ, List.set_cons_zero])
                  refine Rg.ord_loud rfl (fun K hK => ?_)
                  go_simp
                  refine hK _ _ (fun hf => absurd (show Rg.sink _ 12 = true from by kernel_rfl) (by rw [hf]; decide)) ?_
                  clear hK K e4 f4 r1 ck7
                  refine Rg.ord_nil ?_
                  go_wp2
                  exact ⟨⟨j + 1, _, ⟨by omega, by omega⟩, by go_num, by rw [Hnx.out]; exact HS7.out⟩, by simp [intOf]; omega⟩
                · have Hnx := hide (show Lc ++ mk 45 (pickS 43 ((L.drop i).take (j + 1 - i))) = Lc ++ mk 45 (pickS 43 ((L.drop i).take (j - i))) by
                    rw [Hsn.out, pickS_snoc_no _ _ _ (by rw [Hse.out]; exact hsk)])
                  have ek : ((s.toNat : Int) == 43) = false := u8_ne hsk
                  clear hsk hrun ea hct
                  go_wp2
                  exact ⟨⟨j + 1, _, ⟨by omega, by omega⟩, by go_num, by rw [Hnx.out]; exact HSa.out⟩, by simp [intOf]; omega⟩
              · obtain ⟨hjke⟩ : Nonempty (j = k) := ⟨by omega⟩
                have HSb := hide HSa.out
                rw [hjke] at HSb
                clear HSa hjke
                have Hrwb := hide Hrw1.out
                clear Hrw1
                go_wp2
                go_loopw [7] (fun y wr' => ∃ (j : Nat) (v' : Value), (i ≤ j ∧ j ≤ k) ∧ y = .int .i64 j ∧ HS w wp wr' g3 (.int .i64 hb) (.int .i64 hbn) (.int .i64 ha) (.int .i64 han) v' ((Lc ++ mk 45 (pickS 43 ((L.drop i).take (k - i)))) ++ mk 43 (pickS 45 ((L.drop i).take (j - i))))) (fun y _ => k - (intOf y).toNat)
                case atStart => exact ⟨i, _, ⟨Nat.le_refl _, by omega⟩, rfl, by simpa [pickS, mk_nil] using HSb.out⟩
                case round =>
                  obtain ⟨j, v', ⟨hij, hjk⟩, rfl, hT⟩ := hrel
                  have HSa := hide hT
                  have hrw1 : Row wr g1 tH [.int .i64 ha, .int .i64 han, .int .i64 hb, .int .i64 hbn, .slice (some ⟨b, o, none⟩) N c] := (hT.far.block g1 Hr1.out.lt (fun e => by injection e with e; omega)).trans Hr1.out
                  have c4 := hrw1.cell 4
                  have Hrw1 := hide hrw1
                  simp only [List.getElem?_cons_zero, List.getElem?_cons_succ] at c4
                  clear hT hrw1
                  by_cases hlj : j < k
                  · obtain ⟨b', o', hA, ck⟩ := Hs.out.text HSa.out.low (k := j) (by have := HN.out; omega)
                    injection hA with hA
                    injection hA with hA1 hA2 _
                    subst hA1 hA2
                    obtain ⟨hxn, htl⟩ := Hline2.out j (by omega)
                    have hrun := Hrun.out (L.getD j []) (by
                      have h1 := run_snoc L i j hij (by have := HN.out; omega)
                      have h2 : (L.drop i).take (j + 1 - i) <+: (L.drop i).take (k - i) := List.take_prefix_take_left (by omega)
                      exact h2.subset (by rw [h1]; exact List.mem_append_right _ (List.mem_singleton.2 rfl)))
                    have Hsn := hide (run_snoc L i j hij (by have := HN.out; omega))
                    obtain ⟨z, hz⟩ : ∃ z, z = L.getD j [] := ⟨_, rfl⟩
                    rw [← hz] at ck hrun hxn htl Hsn
                    clear hz
                    have hzl0 : 0 < z.length := List.length_pos_iff.2 hxn
                    have hsz := size_of z
                    have hg := get_at z 0 (by rw [hsz]; exact hzl0)
                    rw [sg_get] at hg
                    have hct := cut_one_tail hxn
                    obtain ⟨t', ht'⟩ : ∃ t', t' = z.tail := ⟨_, rfl⟩
                    rw [← ht'] at hct htl
                    have Ht' := hide ht'
                    obtain ⟨s, hse⟩ : ∃ s, s = sg z := ⟨_, rfl⟩
                    rw [← hse] at hg hrun
                    have Hse := hide hse.symm
                    clear ht' hse hxn
                    have ea := app_txt [43] t'
                    have hX1 : ¬ 9223372036854775807 < 1 + t'.length := by omega
                    have hX2 : ¬ 9223372036854775807 < t'.length + 1 := by omega
                    have hyl3 : 1 ≤ z.length := hzl0
                    have hyl2 : (1 : Int) ≤ (z.length : Int) := by omega
                    have hjN : j < N := by omega
                    have hrl : ((L.drop i).take (j - i)).length ≤ 100000 := by rw [List.length_take, List.length_drop]; have := HN.out; omega
                    have Hpl := hide (show ((Lc ++ mk 45 (pickS 43 ((L.drop i).take (k - i)))) ++ mk 43 (pickS 45 ((L.drop i).take (j - i)))).length ≤ 500000 by
                      rw [List.length_append, mk_len]
                      have h1 := pickS_len 45 ((L.drop i).take (j - i))
                      have h2 : ((Lc ++ mk 45 (pickS 43 ((L.drop i).take (k - i))))).length ≤ 300000 := by rw [List.length_append, mk_len]; have h1 := pickS_len 43 ((L.drop i).take (k - i)); have h3 : ((L.drop i).take (k - i)).length ≤ 100000 := (by rw [List.length_take, List.length_drop]; have := HN.out; omega); have := HcL.out; omega
                      omega)
                    clear hrl
                    by_cases hsk : s = 45
                    · have Hnx := hide (show (Lc ++ mk 45 (pickS 43 ((L.drop i).take (k - i)))) ++ mk 43 (pickS 45 ((L.drop i).take (j + 1 - i))) = ((Lc ++ mk 45 (pickS 43 ((L.drop i).take (k - i)))) ++ mk 43 (pickS 45 ((L.drop i).take (j - i)))) ++ [43 :: t'] by
                        rw [Hsn.out, pickS_snoc_yes _ _ _ (by rw [Hse.out]; exact hsk), mk_append, ← Ht'.out, ← List.append_assoc]; rfl)
                      rw [hsk] at hg
                      clear hrun hsk
                      go_wp2
                      have q4 := HSa.out.cells.2.2.2.2.1
                      have q1 := Hrw1.out.cell 4
                      simp only [List.getElem?_cons_zero, List.getElem?_cons_succ] at q1
                      refine Rg.wp_region_ord (fun w' => w'.cell? ⟨g3, 4, none⟩ = some v' ∧ w'.cell? ⟨g1, 4, none⟩ = some (.slice (some ⟨b, o, none⟩) N c) ∧ w'.cell? ⟨b, o + j, none⟩ = some (.string ⟨z.toArray⟩)) [(0, true), (1, true), (2, true), (3, true), (4, true), (5, true), (6, true), (7, true), (8, true), (9, false), (10, false), (11, true), (12, false)] (by kernel_rfl) (by kernel_rfl) ?_
                      simp only [Rg.pick, List.map_cons, List.map_nil, List.getD_cons_zero, List.getD_cons_succ]
                      iterate 9 (refine Rg.ord_quiet (v := ?_) rfl (fun w' hS => ?_) ⟨q4, q1, ck⟩ ?_; rotate_left; (obtain ⟨s4, s1, sk⟩ := hS; go_simp; with_reducible rfl); simp only [Act.put, List.setIfInBounds_toArray, List.set_cons_succ, List.set_cons_zero])
                      refine Rg.ord_loud rfl (fun K hK => ?_)
                      go_simp
                      refine hK _ _ (fun hf => ⟨cell_keep ((Below.refl _ _).alloc (Nat.le_refl _) _).drew q4, cell_keep ((Below.refl _ _).alloc (Nat.le_refl _) _).drew q1, cell_keep ((Below.refl _ _).alloc (Nat.le_refl _) _).drew ck⟩) ?_
                      clear hK K
                      refine Rg.ord_loud rfl (fun K hK => ?_)
                      have HSd := hide HSa.out.drew
                      refine wp_pushT (.tmp 78) (.tmp 86) rfl wp.heap.size wr.drew v' ((Lc ++ mk 45 (pickS 43 ((L.drop i).take (k - i)))) ++ mk 43 (pickS 45 ((L.drop i).take (j - i)))) (43 :: t') _ rfl rfl rfl HSd.out.own (by have := Hpl.out; omega) (Below.refl _ _) (by have := HSd.out.far.size; exact this) ?_
                      intro v7 w7 hv7 hb7 hg7 _
                      obtain ⟨A7, n7, c7, rfl⟩ := owt_form hv7
                      have e4 := (HSd.out.grown hg7).cell 4
                      have f4 := (HSd.out.grown hg7).free 4
                      have r1 := (Hrw1.out.drew.grown hg7 (fun e => row_ne Hrw1.out.drew tH_ne HSd.out.own g1 e.symm rfl)).cell 4
                      have ck7 : w7.cell? ⟨b, o + j, none⟩ = some (.string ⟨z.toArray⟩) := (World.cell?_of_block (w := wr.drew) (a := ⟨b, o + j, none⟩) (hg7.block b (World.block_lt_of_cell? wr.drew _ ck) (fun e => by have h1 := (World.ownsRow.lt HSd.out.own b e.symm).1; have h2 := HT0.out.low.size; have h3 := Hblk.out b o rfl j (by omega); omega))).trans ck
                      simp only [List.getElem?_cons_zero, List.getElem?_cons_succ] at e4 r1
                      have HS7 := hide (HSd.out.step hv7 hg7)
                      clear q4 q1 ck hv7 hb7 hg7
                      refine hK _ _ (fun _ => ⟨e4, r1, ck7⟩) ?_
                      clear hK K
                      try simp only [Act.put, List.setIfInBounds_toArray, List.set_cons_succ, List.set_cons_zero]
                      iterate 1 (refine Rg.ord_quiet (v := ?_) rfl (fun w' hS => ?_) ⟨e4, r1, ck7⟩ ?_; rotate_left; (obtain ⟨s4, s1, sk⟩ := hS; go_simp; with_reducible rfl); simp only [Act.put, List.setIfInBounds_toArray, List.set_cons_succ, List.set_cons_zero])
                      refine Rg.ord_loud rfl (fun K hK => ?_)
                      go_simp
                      refine hK _ _ (fun hf => absurd (show Rg.sink _ 12 = true from by kernel_rfl) (by rw [hf]; decide)) ?_
                      clear hK K e4 f4 r1 ck7
                      refine Rg.ord_nil ?_
                      go_wp2
                      exact ⟨⟨j + 1, _, ⟨by omega, by omega⟩, by go_num, by rw [Hnx.out]; exact HS7.out⟩, by simp [intOf]; omega⟩
                    · have Hnx := hide (show (Lc ++ mk 45 (pickS 43 ((L.drop i).take (k - i)))) ++ mk 43 (pickS 45 ((L.drop i).take (j + 1 - i))) = (Lc ++ mk 45 (pickS 43 ((L.drop i).take (k - i)))) ++ mk 43 (pickS 45 ((L.drop i).take (j - i))) by
                        rw [Hsn.out, pickS_snoc_no _ _ _ (by rw [Hse.out]; exact hsk)])
                      have ek : ((s.toNat : Int) == 45) = false := u8_ne hsk
                      clear hsk hrun ea hct
                      go_wp2
                      exact ⟨⟨j + 1, _, ⟨by omega, by omega⟩, by go_num, by rw [Hnx.out]; exact HSa.out⟩, by simp [intOf]; omega⟩
                  · obtain ⟨hjke⟩ : Nonempty (j = k) := ⟨by omega⟩
                    have HSe := hide HSa.out
                    rw [hjke] at HSe
                    clear HSa hjke
                    have Hrwb := hide Hrw1.out
                    clear Hrw1
                    go_wp2
                    have hx32 : sg (L.getD k []) = 32 := by
                      rcases Hend.out with h | ⟨_, h⟩
                      · omega
                      · exact h
                    have Hpre2 := hide (show (((Lc ++ mk 45 (pickS 43 ((L.drop i).take (k - i)))) ++ mk 43 (pickS 45 ((L.drop i).take (k - i)))) ++ [L.getD k []]) ++ turnA [] [] (L.drop (k + 1)) = T by
                      rw [← Hpre.out, turn_mid L i k hik (by have := HN.out; omega) Hrun.out hx32]; simp)
                    obtain ⟨b', o', hA, ck⟩ := Hs.out.text HSe.out.low (k := k) (by have := HN.out; omega)
                    injection hA with hA
                    injection hA with hA1 hA2 _
                    subst hA1 hA2
                    obtain ⟨z, hz⟩ : ∃ z, z = L.getD k [] := ⟨_, rfl⟩
                    rw [← hz] at ck Hpre2
                    clear hz hx32
                    have Hpl := hide (show ((Lc ++ mk 45 (pickS 43 ((L.drop i).take (k - i)))) ++ mk 43 (pickS 45 ((L.drop i).take (k - i)))).length ≤ 500000 by
                      rw [List.length_append, List.length_append, mk_len, mk_len]
                      have h1 := pickS_len 43 ((L.drop i).take (k - i))
                      have h2 := pickS_len 45 ((L.drop i).take (k - i))
                      have h3 : ((L.drop i).take (k - i)).length ≤ 100000 := (by rw [List.length_take, List.length_drop]; have := HN.out; omega)
                      have := HcL.out
                      omega)
                    have c5 := Hrwb.out.cell 4
                    simp only [List.getElem?_cons_zero, List.getElem?_cons_succ] at c5
                    go_wp2
                    have q4 := HSe.out.cells.2.2.2.2.1
                    refine Rg.wp_region_ord (fun w' => w'.cell? ⟨g3, 4, none⟩ = some v' ∧ w'.cell? ⟨g1, 4, none⟩ = some (.slice (some ⟨b, o, none⟩) N c) ∧ w'.cell? ⟨b, o + k, none⟩ = some (.string ⟨z.toArray⟩)) [(0, true), (1, true), (2, true), (3, true), (4, true), (5, true), (6, true), (7, false), (8, false), (9, true), (10, false)] (by kernel_rfl) (by kernel_rfl) ?_
                    simp only [Rg.pick, List.map_cons, List.map_nil, List.getD_cons_zero, List.getD_cons_succ]
                    iterate 7 (refine Rg.ord_quiet (v := ?_) rfl (fun w' hS => ?_) ⟨q4, c5, ck⟩ ?_; rotate_left; (obtain ⟨s4, s1, sk⟩ := hS; go_simp; with_reducible rfl); simp only [Act.put, List.setIfInBounds_toArray, List.set_cons_succ, List.set_cons_zero])
                    refine Rg.ord_loud rfl (fun K hK => ?_)
                    go_simp
                    refine hK _ _ (fun hf => ⟨cell_keep ((Below.refl _ _).alloc (Nat.le_refl _) _).drew q4, cell_keep ((Below.refl _ _).alloc (Nat.le_refl _) _).drew c5, cell_keep ((Below.refl _ _).alloc (Nat.le_refl _) _).drew ck⟩) ?_
                    clear hK K
                    refine Rg.ord_loud rfl (fun K hK => ?_)
                    have HSd := hide HSe.out.drew
                    refine wp_pushT (.tmp 95) (.tmp 101) rfl wp.heap.size wr.drew v' ((Lc ++ mk 45 (pickS 43 ((L.drop i).take (k - i)))) ++ mk 43 (pickS 45 ((L.drop i).take (k - i)))) z _ rfl rfl rfl HSd.out.own (by have := Hpl.out; omega) (Below.refl _ _) (by have := HSd.out.far.size; exact this) ?_
                    intro v7 w7 hv7 hb7 hg7 _
                    obtain ⟨A7, n7, c7, rfl⟩ := owt_form hv7
                    have e4 := (HSd.out.grown hg7).cell 4
                    have f4 := (HSd.out.grown hg7).free 4
                    have r1 := (Hrwb.out.drew.grown hg7 (fun e => row_ne Hrwb.out.drew tH_ne HSd.out.own g1 e.symm rfl)).cell 4
                    have ck7 : w7.cell? ⟨b, o + k, none⟩ = some (.string ⟨z.toArray⟩) := (World.cell?_of_block (w := wr.drew) (a := ⟨b, o + k, none⟩) (hg7.block b (World.block_lt_of_cell? wr.drew _ ck) (fun e => by have h1 := (World.ownsRow.lt HSd.out.own b e.symm).1; have h2 := HT0.out.low.size; have h3 := Hblk.out b o rfl k (by omega); omega))).trans ck
                    simp only [List.getElem?_cons_zero, List.getElem?_cons_succ] at e4 r1
                    have HS7 := hide (HSd.out.step hv7 hg7)
                    clear q4 ck hv7 hb7 hg7 c5
                    refine hK _ _ (fun _ => ⟨e4, r1, ck7⟩) ?_
                    clear hK K
                    try simp only [Act.put, List.setIfInBounds_toArray, List.set_cons_succ, List.set_cons_zero]
                    iterate 1 (refine Rg.ord_quiet (v := ?_) rfl (fun w' hS => ?_) ⟨e4, r1, ck7⟩ ?_; rotate_left; (obtain ⟨s4, s1, sk⟩ := hS; go_simp; with_reducible rfl); simp only [Act.put, List.setIfInBounds_toArray, List.set_cons_succ, List.set_cons_zero])
                    refine Rg.ord_loud rfl (fun K hK => ?_)
                    go_simp
                    refine hK _ _ (fun hf => absurd (show Rg.sink _ 10 = true from by kernel_rfl) (by rw [hf]; decide)) ?_
                    clear hK K e4 f4 r1 ck7
                    refine Rg.ord_nil ?_
                    go_wp2
                    exact ⟨⟨k + 1, _, _, by omega, by go_num, Hpre2.out, HS7.out⟩, by simp [intOf]; omega⟩
          · obtain rfl : k = N := by omega
            clear hcond
            go_wp2
            go_loopw [6] (fun y wr' => ∃ (j : Nat) (v' : Value), (i ≤ j ∧ j ≤ k) ∧ y = .int .i64 j ∧ HS w wp wr' g3 (.int .i64 hb) (.int .i64 hbn) (.int .i64 ha) (.int .i64 han) v' (Lc ++ mk 45 (pickS 43 ((L.drop i).take (j - i))))) (fun y _ => k - (intOf y).toNat)
            case atStart => exact ⟨i, _, ⟨Nat.le_refl _, by omega⟩, rfl, by simpa [pickS, mk_nil] using HS1.out⟩
            case round =>
              obtain ⟨j, v', ⟨hij, hjk⟩, rfl, hT⟩ := hrel
              have HSa := hide hT
              have hrw1 : Row wr g1 tH [.int .i64 ha, .int .i64 han, .int .i64 hb, .int .i64 hbn, .slice A k c] := (hT.far.block g1 Hr1.out.lt (fun e => by injection e with e; omega)).trans Hr1.out
              have c4 := hrw1.cell 4
              have Hrw1 := hide hrw1
              simp only [List.getElem?_cons_zero, List.getElem?_cons_succ] at c4
              clear hT hrw1
              by_cases hlj : j < k
              · obtain ⟨b', o', hA, ck⟩ := Hs.out.text HSa.out.low (k := j) (by have := HN.out; omega)
                subst hA
                obtain ⟨hxn, htl⟩ := Hline2.out j (by omega)
                have hrun := Hrun.out (L.getD j []) (by
                  have h1 := run_snoc L i j hij (by have := HN.out; omega)
                  have h2 : (L.drop i).take (j + 1 - i) <+: (L.drop i).take (k - i) := List.take_prefix_take_left (by omega)
                  exact h2.subset (by rw [h1]; exact List.mem_append_right _ (List.mem_singleton.2 rfl)))
                have Hsn := hide (run_snoc L i j hij (by have := HN.out; omega))
                obtain ⟨z, hz⟩ : ∃ z, z = L.getD j [] := ⟨_, rfl⟩
                rw [← hz] at ck hrun hxn htl Hsn
                clear hz
                have hzl0 : 0 < z.length := List.length_pos_iff.2 hxn
                have hsz := size_of z
                have hg := get_at z 0 (by rw [hsz]; exact hzl0)
                rw [sg_get] at hg
                have hct := cut_one_tail hxn
                obtain ⟨t', ht'⟩ : ∃ t', t' = z.tail := ⟨_, rfl⟩
                rw [← ht'] at hct htl
                have Ht' := hide ht'
                obtain ⟨s, hse⟩ : ∃ s, s = sg z := ⟨_, rfl⟩
                rw [← hse] at hg hrun
                have Hse := hide hse.symm
                clear ht' hse hxn
                have ea := app_txt [45] t'
                have hX1 : ¬ 9223372036854775807 < 1 + t'.length := by omega
                have hX2 : ¬ 9223372036854775807 < t'.length + 1 := by omega
                have hyl3 : 1 ≤ z.length := hzl0
                have hyl2 : (1 : Int) ≤ (z.length : Int) := by omega
                have hjN : j < k := by omega
                have hrl : ((L.drop i).take (j - i)).length ≤ 100000 := by rw [List.length_take, List.length_drop]; have := HN.out; omega
                have Hpl := hide (show (Lc ++ mk 45 (pickS 43 ((L.drop i).take (j - i)))).length ≤ 500000 by
                  rw [List.length_append, mk_len]
                  have h1 := pickS_len 43 ((L.drop i).take (j - i))
                  have h2 : (Lc).length ≤ 300000 := by have := HcL.out; omega
                  omega)
                clear hrl
                by_cases hsk : s = 43
                · have Hnx := hide (show Lc ++ mk 45 (pickS 43 ((L.drop i).take (j + 1 - i))) = (Lc ++ mk 45 (pickS 43 ((L.drop i).take (j - i)))) ++ [45 :: t'] by
                    rw [Hsn.out, pickS_snoc_yes _ _ _ (by rw [Hse.out]; exact hsk), mk_append, ← Ht'.out, ← List.append_assoc]; rfl)
                  rw [hsk] at hg
                  clear hrun hsk
                  go_wp2
                  have q4 := HSa.out.cells.2.2.2.2.1
                  have q1 := Hrw1.out.cell 4
                  simp only [List.getElem?_cons_zero, List.getElem?_cons_succ] at q1
                  refine Rg.wp_region_ord (fun w' => w'.cell? ⟨g3, 4, none⟩ = some v' ∧ w'.cell? ⟨g1, 4, none⟩ = some (.slice (some ⟨b', o', none⟩) k c) ∧ w'.cell? ⟨b', o' + j, none⟩ = some (.string ⟨z.toArray⟩)) [(0, true), (1, true), (2, true), (3, true), (4, true), (5, true), (6, true), (7, true), (8, true), (9, false), (10, false), (11, true), (12, false)] (by kernel_rfl) (by kernel_rfl) ?_
                  simp only [Rg.pick, List.map_cons, List.map_nil, List.getD_cons_zero, List.getD_cons_succ]
                  iterate 9 (refine Rg.ord_quiet (v := ?_) rfl (fun w' hS => ?_) ⟨q4, q1, ck⟩ ?_; rotate_left; (obtain ⟨s4, s1, sk⟩ := hS; go_simp; with_reducible rfl); simp only [Act.put, List.setIfInBounds_toArray, List.set_cons_succ, List.set_cons_zero])
                  refine Rg.ord_loud rfl (fun K hK => ?_)
                  go_simp
                  refine hK _ _ (fun hf => ⟨cell_keep ((Below.refl _ _).alloc (Nat.le_refl _) _).drew q4, cell_keep ((Below.refl _ _).alloc (Nat.le_refl _) _).drew q1, cell_keep ((Below.refl _ _).alloc (Nat.le_refl _) _).drew ck⟩) ?_
                  clear hK K
                  refine Rg.ord_loud rfl (fun K hK => ?_)
                  have HSd := hide HSa.out.drew
                  refine wp_pushT (.tmp 53) (.tmp 61) rfl wp.heap.size wr.drew v' (Lc ++ mk 45 (pickS 43 ((L.drop i).take (j - i)))) (45 :: t') _ rfl rfl rfl HSd.out.own (by have := Hpl.out; omega) (Below.refl _ _) (by have := HSd.out.far.size; exact this) ?_
                  intro v7 w7 hv7 hb7 hg7 _
                  obtain ⟨A7, n7, c7, rfl⟩ := owt_form hv7
                  have e4 := (HSd.out.grown hg7).cell 4
                  have f4 := (HSd.out.grown hg7).free 4
                  have r1 := (Hrw1.out.drew.grown hg7 (fun e => row_ne Hrw1.out.drew tH_ne HSd.out.own g1 e.symm rfl)).cell 4
                  have ck7 : w7.cell? ⟨b', o' + j, none⟩ = some (.string ⟨z.toArray⟩) := (World.cell?_of_block (w := wr.drew) (a := ⟨b', o' + j, none⟩) (hg7.block b' (World.block_lt_of_cell? wr.drew _ ck) (fun e => by have h1 := (World.ownsRow.lt HSd.out.own b' e.symm).1; have h2 := HT0.out.low.size; have h3 := Hblk.out b' o' rfl j (by omega); omega))).trans ck
                  simp only [List.getElem?_cons_zero, List.getElem?_cons_succ] at e4 r1
                  have HS7 := hide (HSd.out.step hv7 hg7)
                  clear q4 q1 ck hv7 hb7 hg7
                  refine hK _ _ (fun _ => ⟨e4, r1, ck7⟩) ?_
                  clear hK K
                  try simp only [Act.put, List.setIfInBounds_toArray, List.set_cons_succ, List.set_cons_zero]
                  iterate 1 (refine Rg.ord_quiet (v := ?_) rfl (fun w' hS => ?_) ⟨e4, r1, ck7⟩ ?_; rotate_left; (obtain ⟨s4, s1, sk⟩ := hS; go_simp; with_reducible rfl); simp only [Act.put, List.setIfInBounds_toArray, List.set_cons_succ, List.set_cons_zero])
                  refine Rg.ord_loud rfl (fun K hK => ?_)
                  go_simp
                  refine hK _ _ (fun hf => absurd (show Rg.sink _ 12 = true from by kernel_rfl) (by rw [hf]; decide)) ?_
                  clear hK K e4 f4 r1 ck7
                  refine Rg.ord_nil ?_
                  go_wp2
                  exact ⟨⟨j + 1, _, ⟨by omega, by omega⟩, by go_num, by rw [Hnx.out]; exact HS7.out⟩, by simp [intOf]; omega⟩
                · have Hnx := hide (show Lc ++ mk 45 (pickS 43 ((L.drop i).take (j + 1 - i))) = Lc ++ mk 45 (pickS 43 ((L.drop i).take (j - i))) by
                    rw [Hsn.out, pickS_snoc_no _ _ _ (by rw [Hse.out]; exact hsk)])
                  have ek : ((s.toNat : Int) == 43) = false := u8_ne hsk
                  clear hsk hrun ea hct
                  go_wp2
                  exact ⟨⟨j + 1, _, ⟨by omega, by omega⟩, by go_num, by rw [Hnx.out]; exact HSa.out⟩, by simp [intOf]; omega⟩
              · obtain ⟨hjke⟩ : Nonempty (j = k) := ⟨by omega⟩
                have HSb := hide HSa.out
                rw [hjke] at HSb
                clear HSa hjke
                have Hrwb := hide Hrw1.out
                clear Hrw1
                go_wp2
                go_loopw [7] (fun y wr' => ∃ (j : Nat) (v' : Value), (i ≤ j ∧ j ≤ k) ∧ y = .int .i64 j ∧ HS w wp wr' g3 (.int .i64 hb) (.int .i64 hbn) (.int .i64 ha) (.int .i64 han) v' ((Lc ++ mk 45 (pickS 43 ((L.drop i).take (k - i)))) ++ mk 43 (pickS 45 ((L.drop i).take (j - i))))) (fun y _ => k - (intOf y).toNat)
                case atStart => exact ⟨i, _, ⟨Nat.le_refl _, by omega⟩, rfl, by simpa [pickS, mk_nil] using HSb.out⟩
                case round =>
                  obtain ⟨j, v', ⟨hij, hjk⟩, rfl, hT⟩ := hrel
                  have HSa := hide hT
                  have hrw1 : Row wr g1 tH [.int .i64 ha, .int .i64 han, .int .i64 hb, .int .i64 hbn, .slice A k c] := (hT.far.block g1 Hr1.out.lt (fun e => by injection e with e; omega)).trans Hr1.out
                  have c4 := hrw1.cell 4
                  have Hrw1 := hide hrw1
                  simp only [List.getElem?_cons_zero, List.getElem?_cons_succ] at c4
                  clear hT hrw1
                  by_cases hlj : j < k
                  · obtain ⟨b', o', hA, ck⟩ := Hs.out.text HSa.out.low (k := j) (by have := HN.out; omega)
                    subst hA
                    obtain ⟨hxn, htl⟩ := Hline2.out j (by omega)
                    have hrun := Hrun.out (L.getD j []) (by
                      have h1 := run_snoc L i j hij (by have := HN.out; omega)
                      have h2 : (L.drop i).take (j + 1 - i) <+: (L.drop i).take (k - i) := List.take_prefix_take_left (by omega)
                      exact h2.subset (by rw [h1]; exact List.mem_append_right _ (List.mem_singleton.2 rfl)))
                    have Hsn := hide (run_snoc L i j hij (by have := HN.out; omega))
                    obtain ⟨z, hz⟩ : ∃ z, z = L.getD j [] := ⟨_, rfl⟩
                    rw [← hz] at ck hrun hxn htl Hsn
                    clear hz
                    have hzl0 : 0 < z.length := List.length_pos_iff.2 hxn
                    have hsz := size_of z
                    have hg := get_at z 0 (by rw [hsz]; exact hzl0)
                    rw [sg_get] at hg
                    have hct := cut_one_tail hxn
                    obtain ⟨t', ht'⟩ : ∃ t', t' = z.tail := ⟨_, rfl⟩
                    rw [← ht'] at hct htl
                    have Ht' := hide ht'
                    obtain ⟨s, hse⟩ : ∃ s, s = sg z := ⟨_, rfl⟩
                    rw [← hse] at hg hrun
                    have Hse := hide hse.symm
                    clear ht' hse hxn
                    have ea := app_txt [43] t'
                    have hX1 : ¬ 9223372036854775807 < 1 + t'.length := by omega
                    have hX2 : ¬ 9223372036854775807 < t'.length + 1 := by omega
                    have hyl3 : 1 ≤ z.length := hzl0
                    have hyl2 : (1 : Int) ≤ (z.length : Int) := by omega
                    have hjN : j < k := by omega
                    have hrl : ((L.drop i).take (j - i)).length ≤ 100000 := by rw [List.length_take, List.length_drop]; have := HN.out; omega
                    have Hpl := hide (show ((Lc ++ mk 45 (pickS 43 ((L.drop i).take (k - i)))) ++ mk 43 (pickS 45 ((L.drop i).take (j - i)))).length ≤ 500000 by
                      rw [List.length_append, mk_len]
                      have h1 := pickS_len 45 ((L.drop i).take (j - i))
                      have h2 : ((Lc ++ mk 45 (pickS 43 ((L.drop i).take (k - i))))).length ≤ 300000 := by rw [List.length_append, mk_len]; have h1 := pickS_len 43 ((L.drop i).take (k - i)); have h3 : ((L.drop i).take (k - i)).length ≤ 100000 := (by rw [List.length_take, List.length_drop]; have := HN.out; omega); have := HcL.out; omega
                      omega)
                    clear hrl
                    by_cases hsk : s = 45
                    · have Hnx := hide (show (Lc ++ mk 45 (pickS 43 ((L.drop i).take (k - i)))) ++ mk 43 (pickS 45 ((L.drop i).take (j + 1 - i))) = ((Lc ++ mk 45 (pickS 43 ((L.drop i).take (k - i)))) ++ mk 43 (pickS 45 ((L.drop i).take (j - i)))) ++ [43 :: t'] by
                        rw [Hsn.out, pickS_snoc_yes _ _ _ (by rw [Hse.out]; exact hsk), mk_append, ← Ht'.out, ← List.append_assoc]; rfl)
                      rw [hsk] at hg
                      clear hrun hsk
                      go_wp2
                      have q4 := HSa.out.cells.2.2.2.2.1
                      have q1 := Hrw1.out.cell 4
                      simp only [List.getElem?_cons_zero, List.getElem?_cons_succ] at q1
                      refine Rg.wp_region_ord (fun w' => w'.cell? ⟨g3, 4, none⟩ = some v' ∧ w'.cell? ⟨g1, 4, none⟩ = some (.slice (some ⟨b', o', none⟩) k c) ∧ w'.cell? ⟨b', o' + j, none⟩ = some (.string ⟨z.toArray⟩)) [(0, true), (1, true), (2, true), (3, true), (4, true), (5, true), (6, true), (7, true), (8, true), (9, false), (10, false), (11, true), (12, false)] (by kernel_rfl) (by kernel_rfl) ?_
                      simp only [Rg.pick, List.map_cons, List.map_nil, List.getD_cons_zero, List.getD_cons_succ]
                      iterate 9 (refine Rg.ord_quiet (v := ?_) rfl (fun w' hS => ?_) ⟨q4, q1, ck⟩ ?_; rotate_left; (obtain ⟨s4, s1, sk⟩ := hS; go_simp; with_reducible rfl); simp only [Act.put, List.setIfInBounds_toArray, List.set_cons_succ, List.set_cons_zero])
                      refine Rg.ord_loud rfl (fun K hK => ?_)
                      go_simp
                      refine hK _ _ (fun hf => ⟨cell_keep ((Below.refl _ _).alloc (Nat.le_refl _) _).drew q4, cell_keep ((Below.refl _ _).alloc (Nat.le_refl _) _).drew q1, cell_keep ((Below.refl _ _).alloc (Nat.le_refl _) _).drew ck⟩) ?_
                      clear hK K
                      refine Rg.ord_loud rfl (fun K hK => ?_)
                      have HSd := hide HSa.out.drew
                      refine wp_pushT (.tmp 78) (.tmp 86) rfl wp.heap.size wr.drew v' ((Lc ++ mk 45 (pickS 43 ((L.drop i).take (k - i)))) ++ mk 43 (pickS 45 ((L.drop i).take (j - i)))) (43 :: t') _ rfl rfl rfl HSd.out.own (by have := Hpl.out; omega) (Below.refl _ _) (by have := HSd.out.far.size; exact this) ?_
                      intro v7 w7 hv7 hb7 hg7 _
                      obtain ⟨A7, n7, c7, rfl⟩ := owt_form hv7
                      have e4 := (HSd.out.grown hg7).cell 4
                      have f4 := (HSd.out.grown hg7).free 4
                      have r1 := (Hrw1.out.drew.grown hg7 (fun e => row_ne Hrw1.out.drew tH_ne HSd.out.own g1 e.symm rfl)).cell 4
                      have ck7 : w7.cell? ⟨b', o' + j, none⟩ = some (.string ⟨z.toArray⟩) := (World.cell?_of_block (w := wr.drew) (a := ⟨b', o' + j, none⟩) (hg7.block b' (World.block_lt_of_cell? wr.drew _ ck) (fun e => by have h1 := (World.ownsRow.lt HSd.out.own b' e.symm).1; have h2 := HT0.out.low.size; have h3 := Hblk.out b' o' rfl j (by omega); omega))).trans ck
                      simp only [List.getElem?_cons_zero, List.getElem?_cons_succ] at e4 r1
                      have HS7 := hide (HSd.out.step hv7 hg7)
                      clear q4 q1 ck hv7 hb7 hg7
                      refine hK _ _ (fun _ => ⟨e4, r1, ck7⟩) ?_
                      clear hK K
                      try simp only [Act.put, List.setIfInBounds_toArray, List.set_cons_succ, List.set_cons_zero]
                      iterate 1 (refine Rg.ord_quiet (v := ?_) rfl (fun w' hS => ?_) ⟨e4, r1, ck7⟩ ?_; rotate_left; (obtain ⟨s4, s1, sk⟩ := hS; go_simp; with_reducible rfl); simp only [Act.put, List.setIfInBounds_toArray, List.set_cons_succ, List.set_cons_zero])
                      refine Rg.ord_loud rfl (fun K hK => ?_)
                      go_simp
                      refine hK _ _ (fun hf => absurd (show Rg.sink _ 12 = true from by kernel_rfl) (by rw [hf]; decide)) ?_
                      clear hK K e4 f4 r1 ck7
                      refine Rg.ord_nil ?_
                      go_wp2
                      exact ⟨⟨j + 1, _, ⟨by omega, by omega⟩, by go_num, by rw [Hnx.out]; exact HS7.out⟩, by simp [intOf]; omega⟩
                    · have Hnx := hide (show (Lc ++ mk 45 (pickS 43 ((L.drop i).take (k - i)))) ++ mk 43 (pickS 45 ((L.drop i).take (j + 1 - i))) = (Lc ++ mk 45 (pickS 43 ((L.drop i).take (k - i)))) ++ mk 43 (pickS 45 ((L.drop i).take (j - i))) by
                        rw [Hsn.out, pickS_snoc_no _ _ _ (by rw [Hse.out]; exact hsk)])
                      have ek : ((s.toNat : Int) == 45) = false := u8_ne hsk
                      clear hsk hrun ea hct
                      go_wp2
                      exact ⟨⟨j + 1, _, ⟨by omega, by omega⟩, by go_num, by rw [Hnx.out]; exact HSa.out⟩, by simp [intOf]; omega⟩
                  · obtain ⟨hjke⟩ : Nonempty (j = k) := ⟨by omega⟩
                    have HSe := hide HSa.out
                    rw [hjke] at HSe
                    clear HSa hjke
                    have Hrwb := hide Hrw1.out
                    clear Hrw1
                    go_wp2
                    have hpre2 : ((Lc ++ mk 45 (pickS 43 ((L.drop i).take (k - i)))) ++ mk 43 (pickS 45 ((L.drop i).take (k - i)))) ++ turnA [] [] (L.drop (k + 1)) = T := by
                      have hd : L.drop (k + 1) = [] := List.drop_of_length_le (by have := HN.out; omega)
                      rw [hd, turnA, ← Hpre.out]
                      have h1 := turn_end L i (by have := HN.out; omega) (by have := Hrun.out; rw [HN.out] at this; exact this)
                      rw [← HN.out] at h1
                      rw [h1]; simp [mk_nil]
                    have Hpre2 := hide hpre2
                    have c5 := Hrwb.out.cell 4
                    simp only [List.getElem?_cons_zero, List.getElem?_cons_succ] at c5
                    clear hpre2
                    go_wp2
                    exact ⟨⟨k + 1, _, _, by omega, by go_num, Hpre2.out, HSe.out⟩, by simp [intOf]; omega⟩
    · have Hf := hide (show Lc = T by
        rw [← Hpre.out, List.drop_of_length_le (by have := HN.out; omega), turnA]
        simp [mk_nil])
      have hfull := HS1.out
      rw [Hf.out] at hfull
      obtain ⟨Hfl⟩ : Nonempty (HS w wp wr g3 (.int .i64 hb) (.int .i64 hbn) (.int .i64 ha) (.int .i64 han) v T) := ⟨hfull⟩
      clear Hf
      have Hf := hide hfull
      obtain ⟨d0, d1, d2, d3, d4, d5⟩ := hfull.cells
      obtain ⟨Av, nv, cv, rfl⟩ := owt_form hfull.own
      have hr2 : Row wr g2 tH [.int .i64 0, .int .i64 0, .int .i64 0, .int .i64 0, .slice none 0 0] := (hfull.far.block g2 Hr2.out.lt (fun e => by injection e with e; omega)).trans Hr2.out
      have z0 := hr2.cell 0
      have z1 := hr2.cell 1
      have z2 := hr2.cell 2
      have z3 := hr2.cell 3
      have z4 := hr2.cell 4
      have y0 := hr2.free 0
      have y1 := hr2.free 1
      have y2 := hr2.free 2
      have y3 := hr2.free 3
      have y4 := hr2.free 4
      simp only [List.getElem?_cons_zero, List.getElem?_cons_succ] at z0 z1 z2 z3 z4
      have Hrz := hide hr2
      clear hfull hr2 d5 HS1
      go_wp2
      have hz : Row ((((((wr.setCell ⟨g2, 0, none⟩ (.int .i64 hb)).setCell ⟨g2, 1, none⟩ (.int .i64 hbn)).setCell ⟨g2, 2, none⟩ (.int .i64 ha)).setCell ⟨g2, 3, none⟩ (.int .i64 han)).setCell ⟨g2, 4, none⟩ (.slice Av nv cv))) g2 tH [.int .i64 hb, .int .i64 hbn, .int .i64 ha, .int .i64 han, .slice Av nv cv] := ((((Hrz.out.put 0 _).put 1 _).put 2 _).put 3 _).put 4 _
      obtain ⟨wz, hwz⟩ : ∃ wz, wz = ((((((wr.setCell ⟨g2, 0, none⟩ (.int .i64 hb)).setCell ⟨g2, 1, none⟩ (.int .i64 hbn)).setCell ⟨g2, 2, none⟩ (.int .i64 ha)).setCell ⟨g2, 3, none⟩ (.int .i64 han)).setCell ⟨g2, 4, none⟩ (.slice Av nv cv))) := ⟨_, rfl⟩
      have hne : ∀ b, (Value.slice Av nv cv).ownBlock = some b → b ≠ g2 := row_ne Hrz.out tH_ne Hf.out.own
      have hown : OwT wz wp.heap.size tS (.slice Av nv cv) T := by rw [hwz]; exact owt_off (owt_off (owt_off (owt_off (owt_off Hf.out.own hne _) hne _) hne _) hne _) hne _
      have hlow : Below w.heap.size w wz := by rw [hwz]; exact below_put (below_put (below_put (below_put (below_put Hf.out.low hg2w _) hg2w _) hg2w _) hg2w _) hg2w _
      rw [← hwz] at hz ⊢
      have q0 := hz.cell 0
      have q1 := hz.cell 1
      have q2 := hz.cell 2
      have q3 := hz.cell 3
      have q4 := hz.cell 4
      simp only [List.getElem?_cons_zero, List.getElem?_cons_succ] at q0 q1 q2 q3 q4
      clear hwz hne hz
      refine bodyPost_ret (v := .agg #[.int .i64 hb, .int .i64 hbn, .int .i64 ha, .int .i64 han, .slice Av nv cv]) (by simp [results, Try.results28, go_sem, q0, q1, q2, q3, q4]) rfl ⟨_, rfl, owt_base hown (by have := Hf.out.lt; omega), hlow⟩
end Go.Proofs.Ytfmmececocilhaa.Hu
