/-
  The reference's Texts, Join, Total; few.
-/
import Derived.Test.YtkecnhoidakckaaLD
import Derived.Lib.Strings
namespace Go.Proofs.Ytkecnhoidakckaa.Lw
open Go Go.RowKit Kt
theorem Vs.bound {w : World} {P : Nat → Prop} {A : Option Addr} {c : Nat} {vs : List Value} (h : Vs w P A c vs) : Vs w (fun b => b < w.heap.size) A c vs :=
  ⟨h.1, fun hn => by
    obtain ⟨b, o, rfl, hp, hc⟩ := h.2 hn
    obtain ⟨v, hv⟩ : ∃ v, vs[0]? = some v := ⟨vs[0], List.getElem?_eq_getElem hn⟩
    exact ⟨b, o, rfl, World.block_lt_of_cell? w ⟨b, o + 0, none⟩ (hc 0 v hv), hc⟩⟩
/-- the cell of text k, in a world behind -/
theorem Vs.text {w w' : World} {A : Option Addr} {c : Nat} {l : List (List UInt8)} (h : Vs w (fun b => b < w.heap.size) A c (texts l)) (hb : Below w.heap.size w w') {k : Nat} (hk : k < l.length) :
    ∃ b o, A = some ⟨b, o, none⟩ ∧ w'.cell? ⟨b, o + k, none⟩ = some (.string ⟨(l.getD k []).toArray⟩) := by
  obtain ⟨b, o, rfl, hp, hc⟩ := h.2 (by rw [texts_len]; omega)
  exact ⟨b, o, rfl, (World.cell?_of_block (a := ⟨b, o + k, none⟩) (hb.block b hp)).trans (hc k _ (texts_at l k hk))⟩
end Go.Proofs.Ytkecnhoidakckaa.Lw
namespace Go.Proofs.Ytkecnhoidakckaa.Li
open Go Go.RowKit Kt Lw

theorem texts_same (l r : List (List UInt8)) (hl : l.length = r.length) (h : ∀ j, j < l.length → l.getD j [] = r.getD j []) : l = r := by
  apply List.ext_getElem hl
  intro i h1 h2
  have := h i h1
  simpa [List.getElem?_eq_getElem h1, List.getElem?_eq_getElem h2] using this
theorem eq_txt (x y : List UInt8) : ((ByteArray.mk x.toArray).toList == (ByteArray.mk y.toArray).toList) = decide (x = y) := by
  rw [Lib.toList_data, Lib.toList_data, Bool.eq_iff_iff, beq_iff_eq, decide_eq_true_iff]
set_option maxHeartbeats 1000000 in
set_option maxRecDepth 100000 in
theorem texts_any (l r : List (List UInt8)) (A A' : Option Addr) (c c' : Nat) (P P' : Nat → Prop) (w : World) (hs : Vs w P A c (texts l)) (hs' : Vs w P' A' c' (texts r)) (hl : l.length ≤ 9223372036854775807) :
    Calls Try.prog 10 #[.slice A l.length c, .slice A' r.length c'] w fun y w' => y = .returned (.bool (decide (l = r))) ∧ Below w.heap.size w w' := by
  by_cases hlen : l.length = r.length
  · have Hs := hide hs.bound
    have Hs' := hide hs'.bound
    clear hs hs'
    have hb0 : ((l.length : Int) != (r.length : Int)) = false := by rw [bne_eq_false_iff_eq]; omega
    have Hlen := hide hlen
    obtain ⟨N, hN⟩ : ∃ N, N = l.length := ⟨_, rfl⟩
    obtain ⟨N', hN'⟩ : ∃ N', N' = r.length := ⟨_, rfl⟩
    rw [← hN, ← hN'] at hb0 ⊢
    have HN := hide hN
    have HN' := hide hN'
    have hNl : N ≤ 9223372036854775807 := by omega
    have hNN : N = N' := by omega
    have HNN := hide hNN
    clear hN hN' hl hlen hNN
    go_enter Try.func10, Try.ntmps10
    go_wp2
    go_loopw [5] (fun i wr => ∃ k : Nat, k ≤ N ∧ i = .int .i64 k ∧ (∀ j, j < k → l.getD j [] = r.getD j []) ∧ Below w.heap.size w wr) (fun i _ => N - (intOf i).toNat)
    case atStart => exact ⟨0, Nat.zero_le _, rfl, fun j h => absurd h (Nat.not_lt_zero _), Below.refl _ _⟩
    case round =>
      obtain ⟨k, hk, rfl, hall, hb⟩ := hrel
      have Hall := hide hall
      have Hb := hide hb
      clear hall hb
      by_cases hlt : k < N
      · obtain ⟨b, o, rfl, ck⟩ := Hs.out.text Hb.out (k := k) (by have := HN.out; omega)
        obtain ⟨b', o', rfl, ck'⟩ := Hs'.out.text Hb.out (k := k) (by have := HN'.out; have := HNN.out; omega)
        have hlt' : k < N' := by have := HNN.out; omega
        by_cases hx : l.getD k [] = r.getD k []
        · have Hx := hide hx
          rw [hx] at ck
          clear hx
          generalize (r.getD k []).toArray = x at *
          go_wp2
          go_quiet (fail)
          go_wp2
          refine ⟨⟨k + 1, by omega, by go_num, fun j hj => ?_, below_drewN Hb.out _⟩, by simp [intOf]; omega⟩
          rcases Nat.lt_or_ge j k with hj' | hj'
          · exact Hall.out j hj'
          · obtain rfl : j = k := by omega
            exact Hx.out
        · have hxn := eq_txt (l.getD k []) (r.getD k [])
          rw [decide_eq_false hx] at hxn
          have Hx := hide hx
          clear hx
          generalize (r.getD k []).toArray = x at *
          generalize (l.getD k []).toArray = y at *
          go_wp2
          go_quiet (fail)
          go_wp2
          go_ret
          refine ⟨?_, below_drewN Hb.out _⟩
          have hd : decide (l = r) = false := decide_eq_false fun h => Hx.out (by rw [h])
          rw [hd]; rfl
      · obtain rfl : k = N := by omega
        go_wp2
        go_ret
        refine ⟨?_, Hb.out⟩
        have hd : decide (l = r) = true := decide_eq_true (texts_same l r Hlen.out fun j hj => Hall.out j (by have := HN.out; omega))
        rw [hd]; rfl
  · have hb0 : ((l.length : Int) != (r.length : Int)) = true := by rw [bne_iff_ne]; omega
    have Hd := hide (show decide (l = r) = false from decide_eq_false fun h => hlen (by rw [h]))
    clear hs hs' hlen
    go_enter Try.func10, Try.ntmps10
    go_wp2
    go_ret
    exact ⟨by rw [Hd.out]; rfl, Below.refl _ _⟩

theorem flat_snoc (l : List (List UInt8)) (k : Nat) (h : k < l.length) : (l.take (k + 1)).flatten = (l.take k).flatten ++ l.getD k [] := by
  rw [List.take_succ_eq_append_getElem h, List.flatten_append]; simp [List.getElem?_eq_getElem h]
theorem app_txt (x y : List UInt8) : ByteArray.mk x.toArray ++ ByteArray.mk y.toArray = ⟨(x ++ y).toArray⟩ := by
  apply ByteArray.ext
  simp
set_option maxHeartbeats 1000000 in
theorem refJoin_any (l : List (List UInt8)) (A : Option Addr) (c : Nat) (P : Nat → Prop) (w : World) (hs : Vs w P A c (texts l)) (hn : l.length ≤ 1000000) (hl : l.flatten.length ≤ 1000000) :
    Calls Try.prog 19 #[.slice A l.length c] w fun e w' => e = .returned (.string ⟨l.flatten.toArray⟩) ∧ Below w.heap.size w w' := by
  have Hs := hide hs.bound
  clear hs
  obtain ⟨N, hN⟩ : ∃ N, N = l.length := ⟨_, rfl⟩
  rw [← hN] at hn ⊢
  have HN := hide hN
  have Hl := hide hl
  clear hN hl
  go_enter Try.func19, Try.ntmps19
  go_wp2
  go_loopw [3, 4] (fun s i wr => ∃ k : Nat, k ≤ N ∧ i = .int .i64 k ∧ s = .string ⟨(l.take k).flatten.toArray⟩ ∧ Below w.heap.size w wr) (fun _ i _ => N - (intOf i).toNat)
  case atStart => exact ⟨0, Nat.zero_le _, rfl, by simp, Below.refl _ _⟩
  case round =>
    obtain ⟨k, hk, rfl, rfl, hb⟩ := hrel
    have Hb := hide hb
    clear hb
    by_cases hlt : k < N
    · obtain ⟨b, o, rfl, ck⟩ := Hs.out.text Hb.out (k := k) (by have := HN.out; omega)
      have Hf := hide (flat_snoc l k (by have := HN.out; omega))
      have hlen : (l.take k).flatten.length + (l.getD k []).length ≤ 1000000 := by
        have h1 := Hl.out
        have h2 : (l.take (k + 1)).flatten.length ≤ l.flatten.length := by
          conv => rhs; rw [← List.take_append_drop (k + 1) l, List.flatten_append, List.length_append]
          omega
        rw [Hf.out, List.length_append] at h2
        omega
      generalize (l.take k).flatten = x at *
      generalize l.getD k [] = y at *
      have ea := app_txt x y
      go_wp2
      exact ⟨⟨k + 1, by omega, by go_num, by rw [Hf.out], Hb.out⟩, by simp [intOf]; omega⟩
    · obtain rfl : k = N := by omega
      go_wp2
      go_ret
      exact ⟨by rw [HN.out, List.take_length]; rfl, Hb.out⟩
def tot (l : List (List UInt8)) : Nat := (l.map fun x => min x.length 100000).sum
theorem tot_snoc (l : List (List UInt8)) (k : Nat) (h : k < l.length) : tot (l.take (k + 1)) = tot (l.take k) + min (l.getD k []).length 100000 := by
  unfold tot
  rw [List.take_succ_eq_append_getElem h, List.map_append, List.sum_append]
  simp [List.getElem?_eq_getElem h]
theorem tot_le : ∀ l : List (List UInt8), tot l ≤ l.length * 100000
  | [] => Nat.le_refl _
  | x :: t => by
    have ih := tot_le t
    have e : tot (x :: t) = min x.length 100000 + tot t := by simp [tot]
    rw [e, List.length_cons]
    omega
theorem flat_tot : ∀ l : List (List UInt8), tot l < 100000 → l.flatten.length = tot l
  | [], _ => rfl
  | x :: t, h => by
    have e : tot (x :: t) = min x.length 100000 + tot t := by simp [tot]
    rw [e] at h
    rw [List.flatten_cons, List.length_append, flat_tot t (by omega), e]
    omega
set_option maxHeartbeats 1000000 in
theorem total_any (l : List (List UInt8)) (A : Option Addr) (c : Nat) (P : Nat → Prop) (w : World) (hs : Vs w P A c (texts l)) (hn : l.length ≤ 40) :
    Calls Try.prog 24 #[.slice A l.length c] w fun e w' => e = .returned (.int .i64 (tot l : Int)) ∧ Below w.heap.size w w' := by
  have Hs := hide hs.bound
  clear hs
  obtain ⟨N, hN⟩ : ∃ N, N = l.length := ⟨_, rfl⟩
  rw [← hN] at hn ⊢
  have HN := hide hN
  clear hN
  go_enter Try.func24, Try.ntmps24
  go_wp2
  go_loopw [3, 4] (fun s i wr => ∃ k : Nat, k ≤ N ∧ i = .int .i64 k ∧ s = .int .i64 (tot (l.take k) : Int) ∧ Below w.heap.size w wr) (fun _ i _ => N - (intOf i).toNat)
  case atStart => exact ⟨0, Nat.zero_le _, rfl, by simp [tot], Below.refl _ _⟩
  case round =>
    obtain ⟨k, hk, rfl, rfl, hb⟩ := hrel
    have Hb := hide hb
    clear hb
    by_cases hlt : k < N
    · obtain ⟨b, o, rfl, ck⟩ := Hs.out.text Hb.out (k := k) (by have := HN.out; omega)
      have Ht := hide (tot_snoc l k (by have := HN.out; omega))
      have hb := tot_le (l.take k)
      have hk2 : (l.take k).length ≤ k := List.length_take_le _ _
      generalize l.getD k [] = y at *
      obtain ⟨T, hT⟩ : ∃ T, T = tot (l.take k) := ⟨_, rfl⟩
      rw [← hT] at Ht hb ⊢
      have hb' : T ≤ 4000000 := by omega
      have hm : min (y.length : Int) 100000 ≤ 100000 := by omega
      have hm0 : 0 ≤ min (y.length : Int) 100000 := by omega
      clear hb hk2 hT
      go_wp2
      exact ⟨⟨k + 1, by omega, by go_num, by rw [Ht.out]; congr 1; push_cast; omega, Hb.out⟩, by simp [intOf]; omega⟩
    · obtain rfl : k = N := by omega
      go_wp2
      go_ret
      exact ⟨by rw [HN.out, List.take_length]; rfl, Hb.out⟩
def fewB (l : List (List UInt8)) : Bool := decide (l.length ≤ 40) && decide (tot l ≤ 400)
set_option maxHeartbeats 1000000 in
theorem few_any (l : List (List UInt8)) (A : Option Addr) (c : Nat) (P : Nat → Prop) (w : World) (hs : Vs w P A c (texts l)) :
    Calls Try.prog 17 #[.slice A l.length c] w fun e w' => e = .returned (.bool (fewB l)) ∧ Below w.heap.size w w' := by
  by_cases hn : l.length ≤ 40
  · have Ht := hide (total_any l A c P w hs hn)
    have Hf := hide (show fewB l = decide ((tot l : Int) ≤ 400) by unfold fewB; rw [decide_eq_true hn, Bool.true_and, decide_eq_decide]; omega)
    have hd : decide ((l.length : Int) ≤ 40) = true := by simp; omega
    obtain ⟨N, hN⟩ : ∃ N, N = l.length := ⟨_, rfl⟩
    rw [← hN] at Ht hd ⊢
    clear hs hn hN
    go_enter Try.func17, Try.ntmps17
    go_wp2_with fail
    refine Ht.out.mono ?_
    rintro e w' ⟨rfl, hb⟩
    go_wp2
    go_ret
    exact ⟨by rw [Hf.out]; rfl, hb⟩
  · have Hf := hide (show fewB l = false by unfold fewB; rw [decide_eq_false hn]; rfl)
    have hd : decide ((l.length : Int) ≤ 40) = false := by simp; omega
    obtain ⟨N, hN⟩ : ∃ N, N = l.length := ⟨_, rfl⟩
    rw [← hN] at hd ⊢
    clear hs hn hN
    go_enter Try.func17, Try.ntmps17
    go_wp2
    go_ret
    exact ⟨by rw [Hf.out]; rfl, Below.refl _ _⟩
theorem few_spec {l : List (List UInt8)} (h : fewB l = true) : l.length ≤ 40 ∧ l.flatten.length ≤ 400 := by
  unfold fewB at h
  simp only [Bool.and_eq_true, decide_eq_true_eq] at h
  exact ⟨h.1, by rw [flat_tot l (by omega)]; exact h.2⟩
end Go.Proofs.Ytkecnhoidakckaa.Li
