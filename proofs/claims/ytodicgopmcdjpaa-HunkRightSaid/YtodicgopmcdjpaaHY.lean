/-
  The reference's Edits.
-/
import Derived.Test.YtodicgopmcdjpaaHX
import Derived.Test.YtodicgopmcdjpaaFIs
namespace Go.Proofs.Ytodicgopmcdjpaa.Hu
open Go Go.RowKit Kt Lw Li Df

theorem okF_all : ∀ (L : Ls) (p : Bool), okF p L = true → ∀ x ∈ L, sg x = 32 ∨ sg x = 45 ∨ sg x = 43
  | [], _, _, x, h => by cases h
  | y :: l, p, h, x, hx => by
    obtain ⟨⟨h1, _⟩, h3⟩ := (okF_cons p y l).1 h
    rcases List.mem_cons.1 hx with rfl | hx
    · exact h1
    · exact okF_all l _ h3 x hx
theorem edL_45 (x : List UInt8) (l : Ls) (z : Int) (e : Ed) (h : sg x = 45) : edL z (some e) (x :: l) = edL (z + 1) (some ⟨e.pos, e.del + 1, e.ins⟩) l := by
  rw [edL, if_neg (by rw [h]; decide), if_pos h]; rfl
theorem edL_43 (x : List UInt8) (l : Ls) (z : Int) (e : Ed) (h : sg x = 43) : edL z (some e) (x :: l) = edL z (some ⟨e.pos, e.del, e.ins ++ [x.tail]⟩) l := by
  rw [edL, if_neg (by rw [h]; decide), if_neg (by rw [h]; decide)]; rfl
theorem edL_32 (x : List UInt8) (l : Ls) (z : Int) (o : Option Ed) (h : sg x = 32) : edL z o (x :: l) = o.toList ++ edL (z + 1) none l := by
  rw [edL, if_pos h]
theorem cut_one_tail {x : List UInt8} (h : x ≠ []) : (ByteArray.mk x.toArray).extract 1 x.length = ⟨x.tail.toArray⟩ := by
  cases x with
  | nil => exact absurd rfl h
  | cons s t => exact cut_tail t s
/-- the state of the reference's loop -/
def ES (w : World) (B : Nat) (v u : Value) (z : Int) (k : Nat) (R : Ls) (T : List Ed) : Prop :=
  (u = .bool false ∧ ∃ L, OwE w B v L ∧ L ++ edL z none R = T ∧ L.length ≤ k) ∨
  (u = .bool true ∧ ∃ g cap Ai ci O p d I, v = .slice (some ⟨g, 0, none⟩) (O.length + 1) cap ∧ OwL w B g cap (.slice Ai I.length ci) O ⟨p, d, I⟩ ∧ O ++ edL z (some ⟨p, d, I⟩) R = T ∧ O.length + 1 ≤ k ∧ (0 ≤ d ∧ d ≤ k) ∧ I.length ≤ k)
theorem ES.stay {w : World} {B : Nat} {v u : Value} {z : Int} {k : Nat} {x : List UInt8} {R : Ls} {T : List Ed} (h : ES w B v u z k (x :: R) T) (hx : sg x = 32) : ES w B v (.bool false) (z + 1) (k + 1) R T := by
  refine .inl ⟨rfl, ?_⟩
  rcases h with ⟨rfl, L, h1, h2, h3⟩ | ⟨rfl, g, cap, Ai, ci, O, p, d, I, rfl, h1, h2, h3, _, _⟩
  · exact ⟨L, h1, by rw [edL_32 _ _ _ _ hx] at h2; exact h2, by omega⟩
  · refine ⟨_, h1.owe, ?_, by rw [List.length_append, List.length_singleton]; omega⟩
    rw [edL_32 _ _ _ _ hx] at h2
    rw [← h2, List.append_assoc]
    rfl
theorem ES.ends {w : World} {B : Nat} {v u : Value} {z : Int} {k : Nat} {T : List Ed} (h : ES w B v u z k [] T) : OwE w B v T := by
  rcases h with ⟨rfl, L, h1, h2, h3⟩ | ⟨rfl, g, cap, Ai, ci, O, p, d, I, rfl, h1, h2, h3, _, _⟩
  · rw [edL] at h2
    rw [← h2]
    simpa using h1
  · rw [edL] at h2
    rw [← h2]
    exact h1.owe
set_option maxHeartbeats 2000000 in
set_option maxRecDepth 100000 in
theorem refEdits_any (ha han hb hbn : Int) (L : Ls) (A : Option Addr) (c : Nat) (P : Nat → Prop) (w : World) (hs : Vs w P A c (texts L)) (hn : L.length ≤ 100000) (hok : okF false L = true) (hz : -1099511627776 ≤ ha ∧ ha ≤ 1099511627776) :
    Calls Try.prog 22 #[.agg #[.int .i64 ha, .int .i64 han, .int .i64 hb, .int .i64 hbn, .slice A L.length c]] w fun y w' => ∃ v, y = .returned v ∧ OwE w' w.heap.size v (edL ha none L) ∧ Below w.heap.size w w' := by
  have Hs := hide hs.bound
  have Hall := hide (okF_all L false hok)
  obtain ⟨N, hN⟩ : ∃ N, N = L.length := ⟨_, rfl⟩
  obtain ⟨T, hT⟩ : ∃ T, T = edL ha none L := ⟨_, rfl⟩
  rw [← hN] at hn ⊢
  rw [← hT]
  have HN := hide hN
  have HT := hide hT
  clear hs hN hT hok
  go_enter Try.func22, Try.ntmps22
  go_wp2
  obtain ⟨w1, hw1⟩ : ∃ w1, w1 = w.alloc (.cells #[.int .i64 ha, .int .i64 han, .int .i64 hb, .int .i64 hbn, .slice A N c] tH) := ⟨_, rfl⟩
  have hb1 : Below w.heap.size w w1 := by rw [hw1]; exact (Below.refl _ w).alloc (Nat.le_refl _) _
  have hrow : Row w1 w.heap.size tH [.int .i64 ha, .int .i64 han, .int .i64 hb, .int .i64 hbn, .slice A N c] := by rw [hw1]; exact Row.fresh w tH _
  rw [← hw1]
  have Hb1 := hide hb1
  have Hrow := hide hrow
  obtain ⟨g1, hg1⟩ : ∃ g1, g1 = w.heap.size := ⟨_, rfl⟩
  rw [← hg1] at Hrow ⊢
  clear hw1 hb1 hrow hg1
  go_loopw [3, 4, 5, 6] (fun v z u i wr => ∃ (k : Nat) (q : Int) (v0 u0 : Value), v0 = v ∧ u0 = u ∧ k ≤ N ∧ i = .int .i64 k ∧ z = .int .i64 q ∧ (ha ≤ q ∧ q ≤ ha + k) ∧ ES wr w1.heap.size v0 u0 q k (L.drop k) T ∧ Below w1.heap.size w1 wr) (fun _ _ _ i _ => N - (intOf i).toNat)
  case atStart => exact ⟨0, ha, _, _, rfl, rfl, Nat.zero_le _, rfl, rfl, by omega, .inl ⟨rfl, [], OwE.nil _ _, HT.out.symm, Nat.le_refl _⟩, Below.refl _ _⟩
  case round =>
    obtain ⟨k, q, v, u, rfl, rfl, hk, rfl, rfl, hq, hE, hb⟩ := hrel
    have Hb := hide hb
    have HE := hide hE
    have hrw := Hrow.out.below hb Hrow.out.lt
    have c4 := hrw.cell 4
    simp only [List.getElem?_cons_zero, List.getElem?_cons_succ] at c4
    clear hb hE hrw
    by_cases hlt : k < N
    · have hkL : k < L.length := by have := HN.out; omega
      obtain ⟨b, o, hA, ck⟩ := Hs.out.text (Hb1.out.trans (Hb.out.mono Hb1.out.size)) (k := k) hkL
      subst hA
      have hgd : L.getD k [] = L[k] := by simp [List.getElem?_eq_getElem hkL]
      have hdk : L.drop k = L.getD k [] :: L.drop (k + 1) := by rw [List.drop_eq_getElem_cons hkL, hgd]
      have hsx := Hall.out (L.getD k []) (by rw [hgd]; exact List.getElem_mem hkL)
      rw [hdk] at HE
      obtain ⟨x, hx⟩ : ∃ x, x = L.getD k [] := ⟨_, rfl⟩
      rw [← hx] at ck HE hsx
      clear hx hgd hdk hkL
      have hxn : x ≠ [] := by
        rintro rfl
        rcases hsx with h | h | h <;> exact absurd h (by decide)
      have hyl0 : 0 < x.length := List.length_pos_iff.2 hxn
      have hyl : 1 ≤ x.length := hyl0
      have hyl2 : (1 : Int) ≤ (x.length : Int) := by omega
      have hsz := size_of x
      have hg := get_at x 0 (by rw [hsz]; exact hyl0)
      rw [sg_get] at hg
      have hct := cut_one_tail hxn
      obtain ⟨t, ht⟩ : ∃ t, t = x.tail := ⟨_, rfl⟩
      rw [← ht] at hct
      have Hyt := hide ht
      obtain ⟨s, hs⟩ : ∃ s, s = sg x := ⟨_, rfl⟩
      rw [← hs] at hg hsx
      have Hsg := hide hs.symm
      clear ht hs hxn
      by_cases h32 : s = 32
      · subst h32
        have HE2 := hide (HE.out.stay Hsg.out)
        clear HE
        go_wp2
        exact ⟨⟨k + 1, q + 1, _, _, rfl, rfl, by omega, by go_num, rfl, by omega, HE2.out, Hb.out⟩, by simp [intOf]; omega⟩
      have e32 : ((s.toNat : Int) == 32) = false := u8_ne h32
      have hs2 : s = 45 ∨ s = 43 := by rcases hsx with h | h | h; exact absurd h h32; exact .inl h; exact .inr h
      rcases HE.out with ⟨rfl, L0, h1, h2, h3⟩ | ⟨rfl, g, cap, Ai, ci, O, p, d, I, rfl, h1, h2, h3, hd0, h4⟩
      · rw [edL_open _ _ _ (by rw [Hsg.out]; exact h32)] at h2
        have Hown := hide h1
        have Hlen := hide h3
        have Hpre := hide h2
        obtain ⟨M, hM⟩ : ∃ M, M = L0.length + 1 := ⟨_, rfl⟩
        obtain ⟨n, hnn⟩ : ∃ n, n = L0.length := ⟨_, rfl⟩
        have HM := hide hM
        have Hn := hide hnn
        have hMn : M = n + 1 := by omega
        have hnM : n < M := by omega
        have hMb : M ≤ 1000000 := by omega
        have hwM : IntKind.i64.wrap ((M : Int) - 1) = (n : Int) := by rw [IntWalk.i64_in _ (by omega)]; omega
        clear h1 h2 h3 hM hnn hMn HE hsx h32
        rcases hs2 with rfl | rfl
        · go_wp2_with (refine wpList_pushL rfl (.tmp 30) (.tmp 33) rfl w1.heap.size w1 _ L0 q _ rfl rfl rfl Hown.out M HM.out (by have := Hlen.out; omega) Hb.out Hb.out.size ?_; intro g cap w2 hl2 hb2; have Hl2 := hide hl2; have Hb2 := hide hb2; have hMc : M ≤ cap := (by have h1 := hl2.lt.2.2; have h2 := HM.out; omega); have cd1 := (hl2.cell Hn.out 1 (by omega)).1; have fd1 := (hl2.cell Hn.out 1 (by omega)).2; have cd2 := (hl2.cell Hn.out 2 (by omega)).1; simp only [edC, List.getElem?_cons_succ, List.getElem?_cons_zero] at cd1 cd2; clear hl2 hb2)
          have hpre2 := Hpre.out
          rw [edL_45 _ _ _ _ Hsg.out] at hpre2
          have hl3 := Hl2.out.setDel Hn.out (1)
          have hb3 : Below w1.heap.size w1 (w2.setCell ⟨g, n * 3 + 1, none⟩ (.int .i64 (1))) := Hb2.out.setCell (p := ⟨g, n * 3 + 1, none⟩) (by have := Hl2.out.lt.1; exact this) _
          have hlen := Hlen.out
          skip
          exact ⟨⟨k + 1, q + 1, _, _, rfl, rfl, by omega, by go_num, rfl, by omega, .inr ⟨rfl, g, cap, none, 0, L0, q, 1, [], by rw [HM.out], hl3, hpre2, by omega, by omega, by simp⟩, hb3⟩, by simp [intOf]; omega⟩
        · go_wp2_with (refine wpList_pushL rfl (.tmp 30) (.tmp 33) rfl w1.heap.size w1 _ L0 q _ rfl rfl rfl Hown.out M HM.out (by have := Hlen.out; omega) Hb.out Hb.out.size ?_; intro g cap w2 hl2 hb2; have Hl2 := hide hl2; have Hb2 := hide hb2; have hMc : M ≤ cap := (by have h1 := hl2.lt.2.2; have h2 := HM.out; omega); have cd1 := (hl2.cell Hn.out 1 (by omega)).1; have fd1 := (hl2.cell Hn.out 1 (by omega)).2; have cd2 := (hl2.cell Hn.out 2 (by omega)).1; simp only [edC, List.getElem?_cons_succ, List.getElem?_cons_zero] at cd1 cd2; clear hl2 hb2)
          have Hl6 := hide (Hl2.out.drew)
          have Hb6 := hide (Hb2.out.drew)
          have s0 := (Hl2.out.cell Hn.out 2 (by omega)).1
          simp only [edC, List.getElem?_cons_succ, List.getElem?_cons_zero] at s0
          refine Rg.wp_region_ord (fun w' => w'.cell? ⟨g, n * 3 + 2, none⟩ = some (.slice none 0 0)) [(0, true), (1, true), (2, true), (3, true), (4, true), (5, true), (6, true), (7, true), (8, true), (9, false), (10, false), (11, true), (12, true), (13, false)] (by kernel_rfl) (by kernel_rfl) ?_
          simp only [Rg.pick, List.map_cons, List.map_nil, List.getD_cons_zero, List.getD_cons_succ]
          iterate 9 (refine Rg.ord_quiet (v := ?_) rfl (fun w' hS => ?_) s0 ?_; rotate_left; (go_simp; with_reducible rfl); simp only [Act.put, List.setIfInBounds_toArray, List.set_cons_succ, List.set_cons_zero])
          refine Rg.ord_loud rfl (fun K hK => ?_)
          go_simp
          refine hK _ _ (fun hf => ?_) ?_
          · exact cell_keep ((Below.refl _ _).alloc (Nat.le_refl _) _).drew s0
          clear hK K
          refine Rg.ord_loud rfl (fun K hK => ?_)
          refine wp_pushT (.tmp 59) (.tmp 62) rfl w1.heap.size w1 (.slice none 0 0) [] t _ rfl rfl rfl Hl6.out.ins (by simp) Hb6.out Hb6.out.size ?_
          intro v7 w7 hv7 hb7 hg7 hbl7
          have g0 := Hl6.out.grown Hn.out hg7 2 (by omega)
          simp only [edC, List.getElem?_cons_succ, List.getElem?_cons_zero] at g0
          obtain ⟨A7, c7, hv7e, _⟩ := OwT.vs hv7
          subst hv7e
          obtain ⟨n7, hn7⟩ : ∃ n7, n7 = ([] ++ [t]).length := ⟨_, rfl⟩
          have Hn7 := hide hn7
          rw [← hn7]
          have Hl7 := hide (Hl6.out.setIns Hn.out hg7 hv7 (hbl7.imp id fun h => ⟨_, h, Nat.le_succ _⟩))
          have Hb7 := hide hb7
          have hf7 := g0.2
          have hs7 := g0.1
          refine hK _ _ (fun _ => hs7) ?_
          clear hK K s0 hv7 hb7 hg7 hbl7 g0 hn7
          iterate 2 (refine Rg.ord_quiet (v := ?_) rfl (fun w' hS => ?_) hs7 ?_; rotate_left; (go_simp; with_reducible rfl); simp only [Act.put, List.setIfInBounds_toArray, List.set_cons_succ, List.set_cons_zero])
          refine Rg.ord_loud rfl (fun K hK => ?_)
          go_simp
          refine hK _ _ (fun hf => absurd (show Rg.sink _ 13 = true from by kernel_rfl) (by rw [hf]; decide)) ?_
          clear hK K hs7 hf7
          refine Rg.ord_nil ?_
          go_wp2_with fail
          have hpre2 := Hpre.out
          rw [edL_43 _ _ _ _ Hsg.out, ← Hyt.out] at hpre2
          have hl8 := Hl7.out
          rw [← Hn7.out] at hl8
          have hb8 := Hb7.out.setCell (p := ⟨g, n * 3 + 2, none⟩) (by have := Hl6.out.lt.1; exact this) (.slice A7 n7 c7)
          have hlen := Hlen.out
          have h7 := Hn7.out
          skip
          exact ⟨⟨k + 1, q, _, _, rfl, rfl, by omega, by go_num, rfl, by omega, .inr ⟨rfl, g, cap, A7, c7, L0, q, 0, [] ++ [t], by rw [HM.out], by rw [← Hn7.out]; exact hl8, hpre2, by omega, by omega, by rw [List.length_append, List.length_singleton]; simp⟩, hb8⟩, by simp [intOf]; omega⟩
      · have Hl := hide h1
        have Hlen := hide h3
        have Hpre := hide h2
        have Hd0 := hide hd0
        have HIl := hide h4
        obtain ⟨M, hM⟩ : ∃ M, M = O.length + 1 := ⟨_, rfl⟩
        obtain ⟨n, hnn⟩ : ∃ n, n = O.length := ⟨_, rfl⟩
        have HM := hide hM
        have Hn := hide hnn
        have hMn : M = n + 1 := by omega
        have hnM : n < M := by omega
        have hMb : M ≤ 1000000 := by omega
        have hMc : M ≤ cap := by have := h1.lt.2.2; omega
        have hwM : IntKind.i64.wrap ((M : Int) - 1) = (n : Int) := by rw [IntWalk.i64_in _ (by omega)]; omega
        have hdb : d ≤ 1000000 := by omega
        have cd1 := (h1.cell hnn 1 (by omega)).1
        have fd1 := (h1.cell hnn 1 (by omega)).2
        have cd2 := (h1.cell hnn 2 (by omega)).1
        simp only [edC, List.getElem?_cons_succ, List.getElem?_cons_zero] at cd1 cd2
        rw [← hM]
        clear h1 h2 h3 hM hnn hMn HE hsx h32 h4
        rcases hs2 with rfl | rfl
        · skip
          go_wp2_with fail
          have hpre2 := Hpre.out
          rw [edL_45 _ _ _ _ Hsg.out] at hpre2
          have hl3 := Hl.out.setDel Hn.out (d + 1)
          have hb3 : Below w1.heap.size w1 (wr.setCell ⟨g, n * 3 + 1, none⟩ (.int .i64 (d + 1))) := Hb.out.setCell (p := ⟨g, n * 3 + 1, none⟩) (by have := Hl.out.lt.1; exact this) _
          have hlen := Hlen.out
          have hd0 := Hd0.out
          have hil := HIl.out
          exact ⟨⟨k + 1, q + 1, _, _, rfl, rfl, by omega, by go_num, rfl, by omega, .inr ⟨rfl, g, cap, Ai, ci, O, p, d + 1, I, by rw [HM.out], hl3, hpre2, by omega, by omega, by omega⟩, hb3⟩, by simp [intOf]; omega⟩
        · skip
          go_wp2_with fail
          have Hl6 := hide (Hl.out.drew)
          have Hb6 := hide (Hb.out.drew)
          have s0 := (Hl.out.cell Hn.out 2 (by omega)).1
          simp only [edC, List.getElem?_cons_succ, List.getElem?_cons_zero] at s0
          refine Rg.wp_region_ord (fun w' => w'.cell? ⟨g, n * 3 + 2, none⟩ = some (.slice Ai I.length ci)) [(0, true), (1, true), (2, true), (3, true), (4, true), (5, true), (6, true), (7, true), (8, true), (9, false), (10, false), (11, true), (12, true), (13, false)] (by kernel_rfl) (by kernel_rfl) ?_
          simp only [Rg.pick, List.map_cons, List.map_nil, List.getD_cons_zero, List.getD_cons_succ]
          iterate 9 (refine Rg.ord_quiet (v := ?_) rfl (fun w' hS => ?_) s0 ?_; rotate_left; (go_simp; with_reducible rfl); simp only [Act.put, List.setIfInBounds_toArray, List.set_cons_succ, List.set_cons_zero])
          refine Rg.ord_loud rfl (fun K hK => ?_)
          go_simp
          refine hK _ _ (fun hf => ?_) ?_
          · exact cell_keep ((Below.refl _ _).alloc (Nat.le_refl _) _).drew s0
          clear hK K
          refine Rg.ord_loud rfl (fun K hK => ?_)
          refine wp_pushT (.tmp 59) (.tmp 62) rfl w1.heap.size w1 (.slice Ai I.length ci) I t _ rfl rfl rfl Hl6.out.ins (by have := HIl.out; omega) Hb6.out Hb6.out.size ?_
          intro v7 w7 hv7 hb7 hg7 hbl7
          have g0 := Hl6.out.grown Hn.out hg7 2 (by omega)
          simp only [edC, List.getElem?_cons_succ, List.getElem?_cons_zero] at g0
          obtain ⟨A7, c7, hv7e, _⟩ := OwT.vs hv7
          subst hv7e
          obtain ⟨n7, hn7⟩ : ∃ n7, n7 = (I ++ [t]).length := ⟨_, rfl⟩
          have Hn7 := hide hn7
          rw [← hn7]
          have Hl7 := hide (Hl6.out.setIns Hn.out hg7 hv7 (hbl7.imp id fun h => ⟨_, h, Nat.le_succ _⟩))
          have Hb7 := hide hb7
          have hf7 := g0.2
          have hs7 := g0.1
          refine hK _ _ (fun _ => hs7) ?_
          clear hK K s0 hv7 hb7 hg7 hbl7 g0 hn7
          iterate 2 (refine Rg.ord_quiet (v := ?_) rfl (fun w' hS => ?_) hs7 ?_; rotate_left; (go_simp; with_reducible rfl); simp only [Act.put, List.setIfInBounds_toArray, List.set_cons_succ, List.set_cons_zero])
          refine Rg.ord_loud rfl (fun K hK => ?_)
          go_simp
          refine hK _ _ (fun hf => absurd (show Rg.sink _ 13 = true from by kernel_rfl) (by rw [hf]; decide)) ?_
          clear hK K hs7 hf7
          refine Rg.ord_nil ?_
          go_wp2_with fail
          have hpre2 := Hpre.out
          rw [edL_43 _ _ _ _ Hsg.out, ← Hyt.out] at hpre2
          have hl8 := Hl7.out
          rw [← Hn7.out] at hl8
          have hb8 := Hb7.out.setCell (p := ⟨g, n * 3 + 2, none⟩) (by have := Hl6.out.lt.1; exact this) (.slice A7 n7 c7)
          have hlen := Hlen.out
          have h7 := Hn7.out
          have hd0 := Hd0.out
          have hil := HIl.out
          exact ⟨⟨k + 1, q, _, _, rfl, rfl, by omega, by go_num, rfl, by omega, .inr ⟨rfl, g, cap, A7, c7, O, p, d, I ++ [t], by rw [HM.out], by rw [← Hn7.out]; exact hl8, hpre2, by omega, by omega, by rw [List.length_append, List.length_singleton]; omega⟩, hb8⟩, by simp [intOf]; omega⟩
    · obtain rfl : k = N := by omega
      have hE2 := HE.out
      rw [HN.out, List.drop_length] at hE2
      have Hf := hide hE2.ends
      clear hE2 HE
      go_wp2
      go_ret
      exact ⟨_, rfl, Hf.out.base Hb1.out.size, Hb1.out.trans (Hb.out.mono Hb1.out.size)⟩
end Go.Proofs.Ytodicgopmcdjpaa.Hu
