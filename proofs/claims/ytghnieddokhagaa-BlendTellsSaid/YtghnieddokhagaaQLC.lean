/-
  lines.Split, lines.Count: a text's lines, in a row of the call's own; how many.
-/
import Derived.Test.YtghnieddokhagaaQLA
import Derived.Test.YtghnieddokhagaaQTA
import Derived.Test.YtghnieddokhagaaQJH
import Derived.Test.YtghnieddokhagaaQEE
import Derived.Lib.AppendZerosOnto
namespace Go.Proofs.Ytghnieddokhagaa.Li
open Go Go.RowKit Go.Shelf Kt Lw
attribute [local go_sem] Oper.semAt_some

theorem infoText : (Try.prog.info? 9).map (fun i => (i.zero, i.size, i.bytes)) = some (some (.string ⟨#[]⟩), 1, 16) := by kernel_rfl
theorem texts_snoc (l : List (List UInt8)) (x : List UInt8) : texts (l ++ [x]) = texts l ++ [.string ⟨x.toArray⟩] := by simp [texts]

set_option maxRecDepth 100000 in
set_option maxHeartbeats 2000000 in
theorem split_any (s : List UInt8) (w : World) (hl : s.length ≤ 1000000) :
    Calls Try.prog 31 #[.string ⟨s.toArray⟩] w fun e w' => ∃ v, e = .returned v ∧ w'.ownsRow w.heap.size 9 1 v (lns s).length (texts (lns s)) ∧ Below w.heap.size w w' := by
  obtain ⟨i0, hi, hz0, hz1, hz2⟩ := info_parts infoText
  have hlen := lns_len_le s
  have hls : s.length ≤ 9223372036854775807 := by omega
  have Hl := hide hl
  have Hlen := hide hlen
  clear hl hlen
  refine (callsIn_wide (n := 9)).1 ?_
  refine callsIn_of_wp_marks Try.func31 rfl trivial ?_ rfl
  simp only [Try.ntmps31, List.size_toArray, List.length_cons, List.length_nil, Nat.reduceAdd, Nat.reduceSub, Array.replicate_succ, Array.replicate_zero, List.push_toArray, List.append_toArray, List.nil_append, List.cons_append]
  gi_wp2_with (refine ⟨trivial, ?_⟩; gi_at_call 41; refine (callsIn_wide.2 (each_any s _)).mono ?_; rintro e w' ⟨rfl, rfl⟩)
  have bO := Boxed.new w 25 (.slice none 0 0)
  have bN := Boxed.new (w.alloc (.cells #[.slice none 0 0] 25)) 9 (.string ⟨s.toArray⟩)
  rw [World.size_alloc] at bN
  have hB0 : Below w.heap.size w ((w.alloc (.cells #[.slice none 0 0] 25)).alloc (.cells #[.string ⟨s.toArray⟩] 9)) := ((Below.refl _ w).alloc (Nat.le_refl _) _).alloc (by simp) _
  refine wpIn_rangeFunc_ownG rfl (by omega) (gf := 61) (lb := #[.pointer (some ⟨w.heap.size + 1, 0, none⟩)]) rfl trivial (enters_of Try.func61 (by kernel_rfl) rfl)
    (each_stops 8 (by omega) (w.heap.size + 1) w.heap.size s hls _ (by simp) bN.cell) belowK_t (belowK_b (by simp; omega)) (Below.refl _ _) (fun _ => rfl)
    (fun pre W => (∃ v, Boxed W w.heap.size 25 v ∧ W.ownsRow w.heap.size 9 1 v pre.length (texts pre) ∧ True) ∧ Below w.heap.size w W)
    (fun _ _ _ => False)
    (OwnFrom.and (Own.from (holdsRow_own w.heap.size w.heap.size 25 9 1 (fun pre => pre.length) (fun pre => texts pre) (fun _ _ => True)) _) (ownFrom_below (Nat.le_refl _) (by simp; omega)))
    (fun _ _ _ _ _ hs _ _ => hs)
    ⟨⟨_, bO.alloc _, World.ownsRow_nil _ _ _ _, trivial⟩, hB0⟩
    (fun x => { tmps := #[.string ⟨s.toArray⟩, undef, .slice none 0 0, .pointer (some ⟨w.heap.size, 0, none⟩), .string ⟨x.toArray⟩, .string ⟨s.toArray⟩, .func (.func 61) #[] #[.pointer (some ⟨w.heap.size + 1, 0, none⟩)], .string ⟨x.toArray⟩, undef, undef, undef, undef, undef], defers := [] }) ?assign ?body ?done ?stop
  case assign =>
    intro l x W K hK
    gi_wp2
    exact hK
  case body =>
    rintro l pre x W ⟨⟨v, hv, hrow, _⟩, hB⟩ hlt
    have hc := hv.cell
    have hpl : pre.length + 1 ≤ 1000000 := by have := Hl.out; have := Hlen.out; omega
    gi_wp2_with (gi_at_builtin; refine wpListIn_append_own _ rfl _ _ 25 rfl w.heap.size 9 i0 (.string ⟨#[]⟩) 1 16 Try.underlying25 hi hz0 hz1 hz2 rfl (by decide) _ _ _ rfl (hrow.alloc _) ⟨W.heap.size, 0, none⟩ 1 1 [.string ⟨x.toArray⟩] rfl rfl (cell_one_new _ _ _) (by simp [Value.oneCell']) (by unfold maxLen; omega) (by omega) (by have := hB.size; simp; omega) ?_; intro v' w1 hown' hgrow _; obtain ⟨g', cap', rfl⟩ := ownsRow_succ hown'; obtain ⟨hv1, hv2, hr2, hk2, hb2⟩ := hv.appended (by decide) hrow hB.size (Nat.le_refl _) hown' hgrow; have hc1 := hv1.cell; have hf1 := hv1.frozen)
    exact ⟨hk2.from _, hb2, ⟨_, hv2, by rw [texts_snoc, List.length_append]; exact hr2, trivial⟩, hB.trans hb2⟩
  case done =>
    rintro D ys W hD rfl ⟨⟨v, hv, hrow, _⟩, hB⟩ hK
    have hc := hv.cell
    gi_wp2
    refine ⟨by simp, .inl ⟨_, _, rfl, run_takeDeferred hK, ?_⟩⟩
    exact ⟨_, results_tmp rfl _ _ _, v, rfl, ownsRow_putObj hrow _ hK rfl, hB.trans (belowK_b (w := w) (Nat.le_refl _) W D _ _ (by simp at hD; omega) hK rfl rfl)⟩
  case stop =>
    rintro D c pre W _ _ h _
    exact h.elim

end Go.Proofs.Ytghnieddokhagaa.Li
namespace Go.Proofs.Ytghnieddokhagaa.Li
open Go Go.RowKit Kt Lw

theorem size_of (l : List UInt8) : (ByteArray.mk l.toArray).size = l.length := rfl
theorem get_at (l : List UInt8) (k : Nat) (h : k < (ByteArray.mk l.toArray).size) : (ByteArray.mk l.toArray)[k] = l.getD k 0 := by
  have h' : k < l.length := h
  have : (ByteArray.mk l.toArray)[k] = l[k]'h' := rfl
  rw [this]
  simp [List.getElem?_eq_getElem h']
theorem get_last (p : List UInt8) (b : UInt8) (h : p.length < (ByteArray.mk (p ++ [b]).toArray).size) : (ByteArray.mk (p ++ [b]).toArray)[p.length] = b := by
  rw [get_at]; simp
theorem ten_of (b : UInt8) : ((b.toNat : Int) == 10) = (b == 10) := by
  rw [Bool.eq_iff_iff, beq_iff_eq, beq_iff_eq, ← UInt8.toNat_inj]
  exact ⟨fun h => by simp; omega, fun h => by simp at h; omega⟩
theorem index_zero (s : List UInt8) : decide (0 ≤ Lib.indexByte s 0) = binary s := by
  induction s with
  | nil => rfl
  | cons b r ih =>
    have hge := Lib.indexByte_ge r 0
    unfold Lib.indexByte
    by_cases hb : b = 0
    · simp [hb, binary]
    · have hb' : (b == 0) = false := by simpa using hb
      have e : binary (b :: r) = binary r := by simp [binary, Ne.symm hb]
      rw [e, ← ih]
      simp only [hb', Bool.false_eq_true, if_false]
      by_cases hm : Lib.indexByte r 0 = -1
      · simp [hm]
      · have hm' : (Lib.indexByte r 0 == -1) = false := by simpa using hm
        simp only [hm', Bool.false_eq_true, if_false]
        rw [decide_eq_decide]
        omega
set_option maxHeartbeats 400000 in
theorem binary_any (s : List UInt8) (w : World) :
    Calls Try.prog 29 #[.string ⟨s.toArray⟩] w fun e w' => e = .returned (.bool (binary s)) ∧ w' = w := by
  have hx := fun w => idx_any s 0 w
  have hz := index_zero s
  obtain ⟨x, hxe⟩ : ∃ x, x = Lib.indexByte s 0 := ⟨_, rfl⟩
  rw [← hxe] at hz
  have Hx := hide hx
  have Hxe := hide hxe
  have Hz := hide hz
  clear hx hxe hz
  go_enter Try.func29, Try.ntmps29
  go_wp2_with fail
  refine (Hx.out _).mono ?_
  rintro e w' ⟨rfl, rfl⟩
  rw [← Hxe.out]
  go_wp2
  go_ret
  exact ⟨by rw [← Hz.out]; rfl, rfl⟩
set_option maxHeartbeats 400000 in
theorem refBinary_any (s : List UInt8) (w : World) (hl : s.length ≤ 9223372036854775807) :
    Calls Try.prog 34 #[.string ⟨s.toArray⟩] w fun e w' => e = .returned (.bool (binary s)) ∧ w' = w := by
  go_enter Try.func34, Try.ntmps34
  go_wp2
  go_loop [3] (fun i => ∃ k : Nat, k ≤ s.length ∧ i = .int .i64 k ∧ binary (s.take k) = false) (fun i => s.length - (intOf i).toNat)
  case atStart => exact ⟨0, Nat.zero_le _, rfl, by simp [binary]⟩
  case round =>
    obtain ⟨k, hk, rfl, hb⟩ := hrel
    by_cases hlt : k < s.length
    · have eg := get_at s k (by rw [size_of]; exact hlt)
      have hts : s.take (k + 1) = s.take k ++ [s.getD k 0] := by
        rw [List.take_succ_eq_append_getElem hlt]; simp [List.getElem?_eq_getElem hlt]
      have hmem : s.getD k 0 ∈ s := by simp [List.getElem?_eq_getElem hlt]
      by_cases h0 : s.getD k 0 = 0
      · have e0 : (((s.getD k 0).toNat : Int) == 0) = true := by rw [h0]; rfl
        have e1 : binary s = true := by rw [h0] at hmem; simpa [binary] using hmem
        have E1 := hide e1
        clear h0 hts hmem e1 hb
        generalize s.getD k 0 = x at *
        go_wp2
        go_ret
        exact ⟨by rw [E1.out]; rfl, rfl⟩
      · have e0 : (((s.getD k 0).toNat : Int) == 0) = false := by
          rw [beq_eq_false_iff_ne]
          intro h
          exact h0 (UInt8.toNat_inj.1 (by simpa using h))
        have e1 : binary (s.take (k + 1)) = false := by
          rw [hts, binary_append, hb]
          simp [binary]
          exact fun h => h0 h.symm
        have E1 := hide e1
        clear h0 hts hmem e1 hb
        generalize s.getD k 0 = x at *
        go_wp2
        exact ⟨⟨k + 1, by omega, by go_num, E1.out⟩, by simp [intOf]; omega⟩
    · obtain rfl : k = s.length := by omega
      rw [List.take_length] at hb
      have Hb := hide hb
      clear hb
      go_wp2
      go_ret
      exact ⟨by rw [Hb.out]; rfl, rfl⟩
set_option maxHeartbeats 400000 in
theorem join_any (l : List (List UInt8)) (A : Option Addr) (c : Nat) (P : Nat → Prop) (w : World) (hs : Vs w P A c (texts l)) (hn : l.length ≤ 1000000) (hl : l.flatten.length ≤ 1000000) :
    Calls Try.prog 32 #[.slice A l.length c] w fun e w' => e = .returned (.string ⟨l.flatten.toArray⟩) ∧ Below w.heap.size w w' := by
  have key : Calls Try.prog 42 #[.slice A l.length c, .string ⟨#[]⟩] w fun e w' => e = .returned (.string ⟨l.flatten.toArray⟩) ∧ Below w.heap.size w w' := by
    cases l with
    | nil =>
      refine (Try.strings_Join_none A c ⟨#[]⟩ w).mono ?_
      rintro e w' ⟨rfl, rfl⟩
      exact ⟨rfl, Below.refl _ _⟩
    | cons x t =>
      obtain ⟨b, o, rfl, _, hc⟩ := hs.2 (by simp [texts])
      have e1 : (((x :: t).map fun y => (⟨y.toArray⟩ : ByteArray)).map (·.data.toList)) = x :: t := by rw [List.map_map]; exact List.map_id _
      have e2 : Lib.join (x :: t) [] = (x :: t).flatten := by
        rw [Lib.join_cons]; simp [Lib.joinTail]
      have h := Try.strings_Join b o c ((x :: t).map fun y => (⟨y.toArray⟩ : ByteArray)) ⟨#[]⟩ w (fun j y hy => hc j _ (by
          simp only [List.getElem?_map] at hy
          simp only [texts, List.getElem?_map]
          cases hj : (x :: t)[j]? with
          | none => rw [hj] at hy; cases hy
          | some z => rw [hj] at hy; simp at hy; simp [← hy]))
        (World.block_lt_of_cell? w ⟨b, o + 0, none⟩ (hc 0 (.string ⟨x.toArray⟩) (by simp [texts]))) (by simp at hn ⊢; omega) (by have := hs.1; simp [texts] at this ⊢; omega)
        (by rw [e1]; show (Lib.join (x :: t) []).length ≤ _; rw [e2]; omega)
      rw [e1, List.length_map] at h
      have e3 : Lib.join (x :: t) (ByteArray.mk #[]).data.toList = (x :: t).flatten := e2
      rw [e3] at h
      exact h
  have Hk := hide key
  clear key
  go_enter Try.func32, Try.ntmps32
  go_wp2_with fail
  refine Hk.out.mono ?_
  rintro e w' ⟨rfl, hb⟩
  go_wp2
  go_ret
  exact ⟨rfl, hb⟩
end Go.Proofs.Ytghnieddokhagaa.Li
namespace Go.Proofs.Ytghnieddokhagaa.Al
open Go Go.RowKit Go.Shelf Kt Lw Li Df

set_option maxRecDepth 100000 in
set_option maxHeartbeats 1000000 in
theorem mcut_any (l : Ls) (x m : Nat) (A : Option Addr) (c : Nat) (P : Nat → Prop) (w : World) (hs : Vs w P A c (texts l)) (hx : x + m ≤ l.length) (hn : l.length ≤ 1000000000) :
    Calls Try.prog 51 #[.slice A l.length c, .agg #[.int .i64 x, .int .i64 m]] w fun y w' => ∃ A' c', y = .returned (.slice A' m c') ∧ Vs w' P A' c' (texts (cut l x m)) ∧ Below w.heap.size w w' := by
  obtain ⟨y, hy⟩ : ∃ y, y = x + m := ⟨_, rfl⟩
  have hcut := vs_cut hs (i := x) (j := y) (by omega) (by omega)
  have h1 := hs.1
  rw [texts_len] at h1
  obtain ⟨N, hN⟩ : ∃ N, N = l.length := ⟨_, rfl⟩
  rw [← hN] at h1 hx hn ⊢
  have e : (l.drop x).take (y - x) = cut l x m := by unfold cut; rw [Int.toNat_natCast, Int.toNat_natCast]; congr 1; omega
  rw [e] at hcut
  have hwr : IntKind.i64.wrap ((x : Int) + (m : Int)) = (y : Int) := by rw [IntWalk.i64_in _ (by omega)]; omega
  have hc := fun w => run_cut2 w A N c x y (by omega) (by omega)
  have hm : y - x = m := by omega
  rw [hm] at hc
  obtain ⟨A', hA'⟩ : ∃ A', A' = (if c = x then A else A.map (·.add x)) := ⟨_, rfl⟩
  rw [← hA'] at hc hcut
  have Hcut := hide hcut
  have hrow := Row.fresh w 67 #[.int .i64 x, .int .i64 m]
  obtain ⟨q, hq⟩ : ∃ q, q = w.heap.size := ⟨_, rfl⟩
  obtain ⟨w1, hw1⟩ : ∃ w1, w1 = w.alloc (.cells #[.int .i64 x, .int .i64 m] 67) := ⟨_, rfl⟩
  have Hb := hide (show Below w.heap.size w w1 by rw [hw1]; exact (Below.refl _ w).alloc (Nat.le_refl _) _)
  have Hq := hide hq
  have Hw1 := hide hw1
  rw [← hw1, ← hq] at hrow
  have q0 := hrow.cell 0
  have q1 := hrow.cell 1
  simp only [List.getElem?_cons_zero, List.getElem?_cons_succ] at q0 q1
  clear hcut hA' hrow hw1 hs hN e hm hy h1 hx hn hq
  go_enter Try.func51, Try.ntmps51
  go_wp2_with (rw [← Hw1.out, ← Hq.out])
  go_ret
  exact ⟨_, _, rfl, Lw.Vs.below Hcut.out ((Hb.out.mono (Nat.le_refl _))), Hb.out⟩
theorem suf_any (x : List UInt8) (w : World) (hx : x.length ≤ 281474976710656) :
    Calls Try.prog 71 #[.string ⟨x.toArray⟩, .string ⟨#[10]⟩] w fun e w' => e = .returned (.bool (decide (x.getLast? = some 10))) ∧ w' = w := by
  refine (Try.strings_HasSuffix ⟨x.toArray⟩ ⟨#[10]⟩ w (by show x.length ≤ _; omega)).mono ?_
  rintro e w' ⟨rfl, rfl⟩
  refine ⟨?_, rfl⟩
  congr 2
  show ([10] : List UInt8).isSuffixOf x = _
  rw [Bool.eq_iff_iff, List.isSuffixOf_iff_suffix, decide_eq_true_iff]
  constructor
  · rintro ⟨t, rfl⟩; simp
  · intro h
    obtain ⟨ys, rfl⟩ := List.getLast?_eq_some_iff.1 h
    exact ⟨ys, rfl⟩
theorem shut_yes {x : List UInt8} (h : x.getLast? = some 10) : shut x = x := if_pos h
theorem shut_no {x : List UInt8} (h : ¬ x.getLast? = some 10) : shut x = x ++ [10] := if_neg h
abbrev Fit (l : Ls) : Prop := ∀ s ∈ l, s.length ≤ 281474976710656
theorem Fit.at {l : Ls} (h : Fit l) {k : Nat} (hk : k < l.length) : (l.getD k []).length ≤ 281474976710656 := by
  have : l.getD k [] = l[k] := by simp [List.getElem?_eq_getElem hk]
  rw [this]
  exact h _ (List.getElem_mem hk)
theorem Fit.cut {l : Ls} (h : Fit l) (x n : Int) : Fit (Al.cut l x n) := fun s hs => h s (List.mem_of_mem_drop (List.mem_of_mem_take hs))
theorem map_take_snoc (l : Ls) (k : Nat) (h : k < l.length) : (l.take (k + 1)).map shut = (l.take k).map shut ++ [shut (l.getD k [])] := by
  rw [List.take_succ_eq_append_getElem h, List.map_append]; simp [List.getElem?_eq_getElem h]
set_option maxRecDepth 100000 in
set_option maxHeartbeats 1000000 in
theorem mclosed_any (l : Ls) (A : Option Addr) (c : Nat) (P : Nat → Prop) (w : World) (hs : Vs w P A c (texts l)) (hn : l.length ≤ 1000000) (hf : Fit l) :
    Calls Try.prog 55 #[.slice A l.length c] w fun y w' => ∃ v, y = .returned v ∧ OwT w' w.heap.size 9 v (l.map shut) ∧ Below w.heap.size w w' := by
  have Hs := hide hs.bound
  obtain ⟨N, hN⟩ : ∃ N, N = l.length := ⟨_, rfl⟩
  rw [← hN] at hn ⊢
  have HN := hide hN
  have Hf := hide hf
  clear hs hN hf
  go_enter Try.func55, Try.ntmps55
  go_wp2
  go_loopw [3, 8] (fun s i wr => ∃ (k : Nat) (v0 : Value), v0 = s ∧ k ≤ N ∧ i = .int .i64 k ∧ OwT wr w.heap.size 9 v0 ((l.take k).map shut) ∧ Below w.heap.size w wr) (fun _ i _ => N - (intOf i).toNat)
  case atStart => exact ⟨0, _, rfl, Nat.zero_le _, rfl, by simpa using OwT.nil _ _ _, Below.refl _ _⟩
  case round =>
    obtain ⟨k, v, rfl, hk, rfl, hown, hb⟩ := hrel
    have Hb := hide hb
    have Hown := hide hown
    clear hb hown
    by_cases hlt : k < N
    · obtain ⟨b, o, rfl, ck⟩ := Hs.out.text Hb.out (k := k) (by have := HN.out; omega)
      have Hm := hide (map_take_snoc l k (by have := HN.out; omega))
      have Hfk := hide (Hf.out.at (k := k) (by have := HN.out; omega))
      have Hlen := hide (show ((l.take k).map shut).length ≤ 1000000 by rw [List.length_map, List.length_take]; omega)
      generalize l.getD k [] = x at *
      generalize (l.take k).map shut = T at *
      have HS := hide (fun w => suf_any x w Hfk.out)
      by_cases hl : x.getLast? = some 10
      · have Hsh := hide (shut_yes hl)
        rw [decide_eq_true hl] at HS
        clear hl
        go_wp2_with (first | (go_at_call 71; go_loud (refine (HS.out _).mono ?_; rintro e w1 ⟨rfl, rfl⟩)) | (refine wpList_pushT rfl (.tmp 17) (.tmp 19) rfl w.heap.size w v T x _ rfl rfl rfl Hown.out (by have := Hlen.out; omega) Hb.out Hb.out.size ?_; intro v1 w1 hown1 hb1 _ _))
        exact ⟨⟨k + 1, _, rfl, by omega, by go_num, by rw [Hm.out, Hsh.out]; exact hown1, hb1⟩, by simp [intOf]; omega⟩
      · have Hsh := hide (shut_no hl)
        rw [decide_eq_false hl] at HS
        have ea : ByteArray.mk x.toArray ++ ByteArray.mk #[10] = ⟨(x ++ [10]).toArray⟩ := app_txt x [10]
        have hx1 : ¬ 9223372036854775807 < x.length + 1 := by have := Hfk.out; omega
        clear hl
        go_wp2_with (first | (go_at_call 71; go_loud (refine (HS.out _).mono ?_; rintro e w1 ⟨rfl, rfl⟩)) | (refine wpList_pushT rfl (.tmp 17) (.tmp 19) rfl w.heap.size w v T (x ++ [10]) _ rfl rfl rfl Hown.out (by have := Hlen.out; omega) Hb.out Hb.out.size ?_; intro v1 w1 hown1 hb1 _ _))
        exact ⟨⟨k + 1, _, rfl, by omega, by go_num, by rw [Hm.out, Hsh.out]; exact hown1, hb1⟩, by simp [intOf]; omega⟩
    · obtain rfl : k = N := by omega
      have Ht := hide (show (l.take k).map shut = l.map shut by rw [HN.out, List.take_length])
      go_wp2
      go_ret
      exact ⟨_, rfl, by rw [← Ht.out]; exact Hown.out, Hb.out⟩
end Go.Proofs.Ytghnieddokhagaa.Al
namespace Go.Proofs.Ytghnieddokhagaa.Al
open Go Go.RowKit Kt Lw Li Df

/-- a slice that holds these texts: a value, its length, and what it holds -/
def IsT (w : World) (v : Value) (l : Ls) : Prop := ∃ A c, v = .slice A l.length c ∧ Vs w (fun _ => True) A c (texts l)
theorem IsT.below {w w' : World} {v : Value} {l : Ls} (h : IsT w v l) (hb : Below w.heap.size w w') : IsT w' v l := by
  obtain ⟨A, c, rfl, hs⟩ := h
  exact ⟨A, c, rfl, Lw.Vs.below hs hb⟩
theorem IsT.own {w : World} {B : Nat} {E : TypeId} {v : Value} {l : Ls} (h : OwT w B E v l) : IsT w v l := by
  obtain ⟨A, c, rfl, hs⟩ := h.vs
  exact ⟨A, c, rfl, hs.1, fun hn => by
    obtain ⟨b, o, e, _, hc⟩ := hs.2 hn
    exact ⟨b, o, e, trivial, hc⟩⟩
theorem OwT.made (w : World) (B : Nat) (E : TypeId) (cs : Array Value) (cap : Nat) (hB : B ≤ w.heap.size) (hc : cs.size = cap) (hm : cap ≤ maxLen) : OwT (w.alloc (.cells cs E)) B E (.slice (some ⟨w.heap.size, 0, none⟩) 0 cap) [] :=
  World.ownsRow_made w cs cap hB hm (by omega)

set_option maxHeartbeats 1000000 in
set_option maxRecDepth 100000 in
theorem growT_nil (n : Nat) (w : World) (hn : n ≤ 10000000000) :
    Calls Try.prog 70 #[.slice none 0 0, .int .i64 n] w fun e w' => ∃ v, e = .returned v ∧ OwT w' w.heap.size 9 v [] ∧ Below w.heap.size w w' := by
  by_cases h0 : n = 0
  · subst h0
    go_enter Try.func70, Try.ntmps70
    go_wp2
    go_ret
    exact ⟨_, rfl, OwT.nil _ _ _, Below.refl _ _⟩
  · obtain ⟨i0, hi, hz0, hz1, hz2⟩ := info_parts Li.infoText
    have hrz := fun ty => Lib.run_append_grow_zeros (P := Try.prog) w 25 3 ty 9 i0 (.string ⟨#[]⟩) .i64 .i64 Try.underlying25 Try.underlying3 hi hz0 none 0 0 [] (run_firstCells_none w.drew i0.size 0 0 0) n (by omega) (by rw [hz1]; omega) (by omega) (by omega) (by rw [hz2]; omega)
      (by rw [hz2]; have := growslice_fits (need := 0 + n) (old := 0) (bytes := 16) (by omega) (by omega); simpa using this)
    have hG1 := grownCap_ge w (0 + n) 0 9
    have hG2 := grownCap_le_maxLen w (0 + n) 0 9 (by unfold maxLen; omega)
    obtain ⟨G, hG⟩ : ∃ G, G = grownCap w (0 + n) 0 9 := ⟨_, rfl⟩
    rw [← hG] at hrz hG1 hG2
    have hG3 := hG2
    unfold maxLen at hG3
    clear hG
    go_enter Try.func70, Try.ntmps70
    go_wp2_with (at_builtin; go_loud (refine Lib.wpList_append_run _ rfl _ _ _ _ rfl _ _ rfl rfl _ _ (hrz _) ?_))
    go_ret
    refine ⟨_, rfl, OwT.drew (OwT.made w w.heap.size 9 _ G (Nat.le_refl _) ?_ hG2), ((Below.refl _ _).alloc (Nat.le_refl _) _).drew⟩
    simp [Builtin.zeroCells]
    omega

theorem catL_take (ls : List Ls) (k : Nat) (h : k < ls.length) : (ls.take (k + 1)).flatten = (ls.take k).flatten ++ ls.getD k [] := by
  rw [List.take_succ_eq_append_getElem h, List.flatten_append]
  simp [List.getElem?_eq_getElem h]
theorem catL_len (ls : List Ls) (k : Nat) : (ls.take k).flatten.length ≤ ls.flatten.length := by
  have e : ls.flatten = (ls.take k).flatten ++ (ls.drop k).flatten := by rw [← List.flatten_append, List.take_append_drop]
  rw [e, List.length_append]
  omega

set_option maxHeartbeats 2000000 in
set_option maxRecDepth 100000 in
theorem concatT_any (ls : List Ls) (vs : List Value) (g c : Nat) (w : World) (hv : vs.length = ls.length) (hg : Row w g 25 vs) (hc : vs.length ≤ c) (hm : vs.length < 1000)
    (hs : ∀ k, k < ls.length → IsT w (vs.getD k (.bool false)) (ls.getD k [])) (hl : ls.flatten.length ≤ 10000000000) :
    Calls Try.prog 54 #[.slice (some ⟨g, 0, none⟩) vs.length c] w fun e w' => ∃ v, e = .returned v ∧ OwT w' w.heap.size 9 v ls.flatten ∧ Below w.heap.size w w' := by
  have Hs := hide hs
  have Hl := hide hl
  have Hg := hide hg
  have Hv := hide hv
  have Hc := hide hc
  clear hs hl hg hv hc
  go_enter Try.func54, Try.ntmps54
  go_wp2
  go_loopw [3, 11] (fun s i wr => ∃ k : Nat, k ≤ vs.length ∧ i = .int .i64 k ∧ s = .int .i64 ((ls.take k).flatten.length : Nat) ∧ w = wr) (fun _ i _ => vs.length - (intOf i).toNat)
  case atStart => exact ⟨0, Nat.zero_le _, rfl, rfl, rfl⟩
  case round =>
    obtain ⟨k, hk, rfl, rfl, rfl⟩ := hrel
    by_cases hlt : k < vs.length
    · have hkl : k < ls.length := by rw [← Hv.out]; exact hlt
      obtain ⟨A, cp, hA, hsl⟩ := Hs.out k hkl
      have Hn := hide (congrArg List.length (catL_take ls k hkl))
      have hb1 := catL_len ls (k + 1)
      rw [Hn.out, List.length_append] at hb1
      have hcell : w.cell? ⟨g, k, none⟩ = some (.slice A (ls.getD k []).length cp) := by
        rw [Hg.out.cell, ← hA]; simp [List.getElem?_eq_getElem hlt]
      have Hsum := hide (Hn.out.trans List.length_append)
      clear Hn hsl
      have hb2 := Hl.out
      generalize (ls.getD k []).length = m at *
      generalize (ls.take k).flatten.length = q at *
      generalize ls.flatten.length = tot at *
      go_wp2
      refine ⟨⟨k + 1, by omega, by go_num, ?_, trivial⟩, ?_⟩
      · rw [Hsum.out]; go_num
      · simp [intOf]; omega
    · obtain rfl : k = vs.length := by omega
      have e1 : ls.take vs.length = ls := List.take_of_length_le (by rw [Hv.out]; exact Nat.le_refl _)
      rw [e1]
      have hb2 := Hl.out
      have Ht := hide (show (ls.take vs.length).flatten = ls.flatten by rw [e1])
      generalize hF : ls.flatten.length = tot at hb2
      have HF := hide hF
      clear hF e1
      go_wp2_with (go_at_call 70; go_loud (refine (growT_nil _ _ hb2).mono ?_; rintro e w1 ⟨v1, rfl, hown1, hb1⟩))
      go_loopw [6, 27] (fun s i wx => ∃ (k : Nat) (s0 : Value), s0 = s ∧ k ≤ vs.length ∧ i = .int .i64 k ∧ OwT wx w.heap.size 9 s0 (ls.take k).flatten ∧ Below w.heap.size w wx) (fun _ i _ => vs.length - (intOf i).toNat)
      case atStart => exact ⟨0, _, rfl, Nat.zero_le _, rfl, hown1, hb1⟩
      case round =>
        clear hown1 hb1
        obtain ⟨k, s, rfl, hk, rfl, hown, hb⟩ := hrel
        have Hown := hide hown
        have Hb := hide hb
        clear hown hb
        by_cases hlt : k < vs.length
        · have hkl : k < ls.length := by rw [← Hv.out]; exact hlt
          obtain ⟨A, cp, hA, hsl⟩ := Hs.out k hkl
          have Hcat := hide (catL_take ls k hkl)
          have Hn := hide (congrArg List.length (catL_take ls k hkl))
          have hb1 := catL_len ls (k + 1)
          rw [Hn.out, List.length_append] at hb1
          have hcell : wr.cell? ⟨g, k, none⟩ = some (.slice A (ls.getD k []).length cp) := by
            rw [(Hg.out.below Hb.out Hg.out.lt).cell, ← hA]; simp [List.getElem?_eq_getElem hlt]
          have Hsl := hide (Lw.Vs.move (w' := wr) hsl fun b _ hlt => Hb.out.block b hlt)
          have Hlen := hide (show (ls.take k).flatten.length + (ls.getD k []).length ≤ 4398046511104 by have := Hl.out; omega)
          clear Hn hsl hb1
          generalize ls.getD k [] = bs at *
          go_wp2_with (refine wpList_catT rfl (.tmp 31) (.tmp 32) 25 rfl Try.underlying25 Li.infoText w.heap.size w _ _ bs (fun _ => True) A cp rfl rfl Hown.out Hsl.out Hlen.out Hb.out Hb.out.size ?_; intro v' w2 hown2 hb2 _)
          rw [← Hcat.out] at hown2
          exact ⟨⟨k + 1, _, rfl, by omega, by go_num, hown2, hb2⟩, by simp [intOf]; omega⟩
        · obtain rfl : k = vs.length := by omega
          go_wp2
          go_ret
          refine ⟨_, rfl, ?_, Hb.out⟩
          rw [← Ht.out]
          exact Hown.out
end Go.Proofs.Ytghnieddokhagaa.Al
namespace Go.Proofs.Ytghnieddokhagaa.Al
open Go Go.RowKit Kt Lw Li Df

set_option maxRecDepth 100000 in
set_option maxHeartbeats 1000000 in
theorem tell1_any (k z0 z1 z2 z3 : Int) (l : Ls) (x m g : Nat) (A : Option Addr) (c : Nat) (P : Nat → Prop) (w : World) (hg : w.cell? ⟨g, 0, none⟩ = some (.slice A l.length c)) (hs : Vs w P A c (texts l)) (hx : x + m ≤ l.length) (hn : l.length ≤ 1000000000) :
    Calls Try.prog 50 #[.agg #[.int .i64 k, .int .i64 z0, .int .i64 z1, .int .i64 x, .int .i64 m, .int .i64 z2, .int .i64 z3], .pointer (some ⟨g, 0, none⟩)] w fun y w' => ∃ A' c', y = .returned (.slice A' m c') ∧ Vs w' P A' c' (texts (cut l x m)) ∧ Below w.heap.size w w' := by
  have HC := hide (fun (w1 : World) (hb : Below w.heap.size w w1) => mcut_any l x m A c P w1 (Lw.Vs.below hs hb) hx hn)
  obtain ⟨N, hN⟩ : ∃ N, N = l.length := ⟨_, rfl⟩
  rw [← hN] at HC hg
  have hlt := World.block_lt_of_cell? w ⟨g, 0, none⟩ hg
  have hrow := Row.fresh w tR #[.int .i64 k, .int .i64 z0, .int .i64 z1, .int .i64 x, .int .i64 m, .int .i64 z2, .int .i64 z3]
  obtain ⟨q, hq⟩ : ∃ q, q = w.heap.size := ⟨_, rfl⟩
  obtain ⟨w1, hw1⟩ : ∃ w1, w1 = w.alloc (.cells #[.int .i64 k, .int .i64 z0, .int .i64 z1, .int .i64 x, .int .i64 m, .int .i64 z2, .int .i64 z3] tR) := ⟨_, rfl⟩
  have hb1 : Below w.heap.size w w1 := by rw [hw1]; exact (Below.refl _ w).alloc (Nat.le_refl _) _
  have hg1 : w1.cell? ⟨g, 0, none⟩ = some (.slice A N c) := (World.cell?_of_block (a := ⟨g, 0, none⟩) (hb1.block g hlt)).trans hg
  have Hb := hide hb1
  have Hq := hide hq
  have Hw1 := hide hw1
  rw [← hw1, ← hq] at hrow
  have q0 := hrow.cell 3
  have q1 := hrow.cell (3 + 1)
  simp only [List.getElem?_cons_zero, List.getElem?_cons_succ] at q0 q1
  clear hs hN hx hn hrow hw1 hq hb1 hg hlt
  go_enter Try.func50, Try.ntmps50
  go_wp2_with (first | rw [← Hw1.out, ← Hq.out] | (go_at_call 51; go_loud (refine (HC.out w1 Hb.out).mono ?_; rintro y w2 ⟨A2, c2, rfl, hv2, hb2⟩)))
  go_ret
  exact ⟨_, _, rfl, hv2, Hb.out.trans (hb2.mono Hb.out.size)⟩
set_option maxRecDepth 100000 in
set_option maxHeartbeats 1000000 in
theorem tell2_any (k z0 z1 z2 z3 : Int) (l : Ls) (x m g : Nat) (A : Option Addr) (c : Nat) (P : Nat → Prop) (w : World) (hg : w.cell? ⟨g, 0, none⟩ = some (.slice A l.length c)) (hs : Vs w P A c (texts l)) (hx : x + m ≤ l.length) (hn : l.length ≤ 1000000000) :
    Calls Try.prog 52 #[.agg #[.int .i64 k, .int .i64 z0, .int .i64 z1, .int .i64 z2, .int .i64 z3, .int .i64 x, .int .i64 m], .pointer (some ⟨g, 0, none⟩)] w fun y w' => ∃ A' c', y = .returned (.slice A' m c') ∧ Vs w' P A' c' (texts (cut l x m)) ∧ Below w.heap.size w w' := by
  have HC := hide (fun (w1 : World) (hb : Below w.heap.size w w1) => mcut_any l x m A c P w1 (Lw.Vs.below hs hb) hx hn)
  obtain ⟨N, hN⟩ : ∃ N, N = l.length := ⟨_, rfl⟩
  rw [← hN] at HC hg
  have hlt := World.block_lt_of_cell? w ⟨g, 0, none⟩ hg
  have hrow := Row.fresh w tR #[.int .i64 k, .int .i64 z0, .int .i64 z1, .int .i64 z2, .int .i64 z3, .int .i64 x, .int .i64 m]
  obtain ⟨q, hq⟩ : ∃ q, q = w.heap.size := ⟨_, rfl⟩
  obtain ⟨w1, hw1⟩ : ∃ w1, w1 = w.alloc (.cells #[.int .i64 k, .int .i64 z0, .int .i64 z1, .int .i64 z2, .int .i64 z3, .int .i64 x, .int .i64 m] tR) := ⟨_, rfl⟩
  have hb1 : Below w.heap.size w w1 := by rw [hw1]; exact (Below.refl _ w).alloc (Nat.le_refl _) _
  have hg1 : w1.cell? ⟨g, 0, none⟩ = some (.slice A N c) := (World.cell?_of_block (a := ⟨g, 0, none⟩) (hb1.block g hlt)).trans hg
  have Hb := hide hb1
  have Hq := hide hq
  have Hw1 := hide hw1
  rw [← hw1, ← hq] at hrow
  have q0 := hrow.cell 5
  have q1 := hrow.cell (5 + 1)
  simp only [List.getElem?_cons_zero, List.getElem?_cons_succ] at q0 q1
  clear hs hN hx hn hrow hw1 hq hb1 hg hlt
  go_enter Try.func52, Try.ntmps52
  go_wp2_with (first | rw [← Hw1.out, ← Hq.out] | (go_at_call 51; go_loud (refine (HC.out w1 Hb.out).mono ?_; rintro y w2 ⟨A2, c2, rfl, hv2, hb2⟩)))
  go_ret
  exact ⟨_, _, rfl, hv2, Hb.out.trans (hb2.mono Hb.out.size)⟩
end Go.Proofs.Ytghnieddokhagaa.Al
