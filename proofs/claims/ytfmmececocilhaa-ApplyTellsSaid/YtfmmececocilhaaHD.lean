/-
  hunk.bare, hunk.add.
-/
import Derived.Test.YtfmmececocilhaaHC
namespace Go.Proofs.Ytfmmececocilhaa.Hu
open Go Go.RowKit Kt Lw Li Df

theorem mk_at (s : UInt8) (l : Ls) (k : Nat) (h : k < l.length) : (mk s l).getD k [] = s :: l.getD k [] := by
  simp [mk, List.getElem?_eq_getElem h]
theorem take_snoc (l : Ls) (k : Nat) (h : k < l.length) : l.take (k + 1) = l.take k ++ [l.getD k []] := by
  rw [List.take_succ_eq_append_getElem h]; simp [List.getElem?_eq_getElem h]
theorem cut_tail (x : List UInt8) (s : UInt8) : (ByteArray.mk (s :: x).toArray).extract 1 (s :: x).length = ⟨x.toArray⟩ := by
  apply ByteArray.ext
  simp
set_option maxHeartbeats 1000000 in
set_option maxRecDepth 100000 in
theorem bare_any (s : UInt8) (l : Ls) (A : Option Addr) (c : Nat) (P : Nat → Prop) (w : World) (hs : Vs w P A c (texts (mk s l))) (hn : l.length ≤ 1000000) :
    Calls Try.prog 43 #[.slice A l.length c] w fun y w' => ∃ v, y = .returned v ∧ OwT w' w.heap.size tS v l ∧ Below w.heap.size w w' := by
  have Hs := hide hs.bound
  obtain ⟨N, hN⟩ : ∃ N, N = l.length := ⟨_, rfl⟩
  rw [← hN] at hn ⊢
  have HN := hide hN
  clear hs hN
  go_enter Try.func43, Try.ntmps43
  go_wp2
  go_loopw [3, 8] (fun v i wr => ∃ (k : Nat) (v0 : Value), v0 = v ∧ k ≤ N ∧ i = .int .i64 k ∧ OwT wr w.heap.size tS v0 (l.take k) ∧ Below w.heap.size w wr) (fun _ i _ => N - (intOf i).toNat)
  case atStart => exact ⟨0, _, rfl, Nat.zero_le _, rfl, OwT.nil _ _ _, Below.refl _ _⟩
  case round =>
    obtain ⟨k, v, rfl, hk, rfl, hown, hb⟩ := hrel
    have Hb := hide hb
    have Hown := hide hown
    clear hb hown
    by_cases hlt : k < N
    · obtain ⟨b, o, rfl, ck⟩ := Hs.out.text Hb.out (k := k) (by rw [mk_len]; have := HN.out; omega)
      rw [mk_at s l k (by have := HN.out; omega)] at ck
      have Ht := hide (take_snoc l k (by have := HN.out; omega))
      have hlk : (l.take k).length ≤ 1000000 := by rw [List.length_take]; omega
      have Hlk := hide hlk
      clear hlk
      generalize l.getD k [] = x at *
      generalize l.take k = p at *
      have hz := cut_tail x s
      obtain ⟨z, hze⟩ : ∃ z, z = s :: x := ⟨_, rfl⟩
      have hz1 : 1 ≤ z.length := by rw [hze]; simp
      rw [← hze] at hz ck
      clear hze
      have hB1 : w.heap.size ≤ wr.heap.size := Hb.out.size
      go_wp2_with (refine wpList_pushT rfl (.tmp 12) (.tmp 15) rfl w.heap.size w v p x _ rfl rfl rfl Hown.out (by have := Hlk.out; omega) Hb.out hB1 ?_; intro v1 w1 hown1 hb1 _ _)
      exact ⟨⟨k + 1, _, rfl, by omega, by go_num, by rw [Ht.out]; exact hown1, hb1⟩, by simp [intOf]; omega⟩
    · obtain rfl : k = N := by omega
      go_wp2
      go_ret
      exact ⟨_, rfl, by have := Hown.out; rwa [HN.out, List.take_length] at this, Hb.out⟩

theorem grown_more {a b c : World} {r r' : Option Nat} (h : a.grownBy b r) (k : b.grownBy c r') (hr : r' = r ∨ ∃ g, r' = some g ∧ a.heap.size ≤ g) : a.grownBy c r :=
  ⟨k.os.trans h.os, k.tape.trans h.tape, k.output.trans h.output, Nat.le_trans h.size k.size, fun i hi hne => (k.block i (Nat.lt_of_lt_of_le hi h.size) (by
    rcases hr with rfl | ⟨g, rfl, hg⟩
    · exact hne
    · intro e; injection e with e; omega)).trans (h.block i hi hne)⟩
theorem sign_conv (s : UInt8) (hs : s = 32 ∨ s = 45 ∨ s = 43) (w : World) : (convert 5 9 (.int .u8 (s.toNat : Int))).run Try.prog w = .ok (.string ⟨[s].toArray⟩) w := by
  rcases hs with rfl | rfl | rfl <;> kernel_rfl
set_option maxHeartbeats 1000000 in
set_option maxRecDepth 100000 in
theorem add_any (s : UInt8) (hs3 : s = 32 ∨ s = 45 ∨ s = 43) (B : Nat) (v : Value) (L l : Ls) (A : Option Addr) (c : Nat) (P : Nat → Prop) (w : World) (hown : OwT w B tS v L) (hs : Vs w P A c (texts l)) (hB : B ≤ w.heap.size) (hL : L.length ≤ 1000000) (hn : l.length ≤ 1000000)
    (hP : ∀ b, P b → some b ≠ v.ownBlock) (hx : ∀ x ∈ l, x.length ≤ 9223372036854775806) :
    Calls Try.prog 42 #[v, .int .u8 (s.toNat : Int), .slice A l.length c] w fun y w' => ∃ v', y = .returned v' ∧ OwT w' B tS v' (L ++ mk s l) ∧ Below B w w' ∧ w.grownBy w' v.ownBlock ∧ (v'.ownBlock = v.ownBlock ∨ ∃ g, v'.ownBlock = some g ∧ w.heap.size ≤ g) := by
  have Hs := hide (show ∀ wr, w.grownBy wr v.ownBlock → Vs wr (fun b => b < wr.heap.size) A c (texts l) from fun wr hg => Lw.Vs.bound (Lw.Vs.move hs fun b hb hlt => hg.block b hlt (hP b hb)))
  have Hx := hide hx
  obtain ⟨N, hN⟩ : ∃ N, N = l.length := ⟨_, rfl⟩
  rw [← hN] at hn ⊢
  have HN := hide hN
  have Hown := hide hown
  have HB := hide hB
  have HL := hide hL
  have hconv := sign_conv s hs3
  obtain ⟨R, hR⟩ : ∃ R, R = v.ownBlock := ⟨_, rfl⟩
  rw [← hR] at Hs ⊢
  have HR := hide hR
  clear hP hs hN hown hB hL hx hR
  generalize hsn : (s.toNat : Int) = n at *
  go_enter Try.func42, Try.ntmps42
  go_wp2
  go_loopw [0, 11] (fun u i wr => ∃ (k : Nat) (v0 : Value), v0 = u ∧ k ≤ N ∧ i = .int .i64 k ∧ OwT wr B tS v0 (L ++ mk s (l.take k)) ∧ Below B w wr ∧ w.grownBy wr R ∧ (v0.ownBlock = R ∨ ∃ g, v0.ownBlock = some g ∧ w.heap.size ≤ g)) (fun _ i _ => N - (intOf i).toNat)
  case atStart => exact ⟨0, _, rfl, Nat.zero_le _, rfl, by simpa [mk_nil] using Hown.out, Below.refl _ _, World.grownBy.refl _ _, .inl HR.out.symm⟩
  case round =>
    obtain ⟨k, u, rfl, hk, rfl, hown, hb, hg, hr⟩ := hrel
    have Hb := hide hb
    have Hg := hide hg
    have Hr := hide hr
    have Hown1 := hide hown
    clear hb hown hg hr
    by_cases hlt : k < N
    · obtain ⟨b, o, rfl, ck⟩ := (Hs.out wr Hg.out).text (Below.refl _ _) (k := k) (by have := HN.out; omega)
      have Ht := hide (take_snoc l k (by have := HN.out; omega))
      have hxl := Hx.out (l.getD k []) (by simp [List.getElem?_eq_getElem (show k < l.length by have := HN.out; omega)])
      have hlk : (L ++ mk s (l.take k)).length ≤ 2000000 := by rw [List.length_append, mk_len, List.length_take]; have := HL.out; omega
      have Hlk := hide hlk
      clear hlk
      generalize l.getD k [] = x at *
      generalize l.take k = p at *
      have ea := app_txt [s] x
      have hB1 : B ≤ wr.heap.size := Nat.le_trans HB.out Hb.out.size
      go_wp2_with (refine wpList_pushT rfl (.tmp 15) (.tmp 20) rfl B w u (L ++ mk s p) (s :: x) _ rfl rfl rfl Hown1.out (by have := Hlk.out; omega) Hb.out hB1 ?_; intro v1 w1 hown1 hb1 hg1 hr1)
      have hown2 : OwT w1 B tS v1 (L ++ mk s (p ++ [x])) := by rw [mk_append, ← List.append_assoc]; exact hown1
      refine ⟨⟨k + 1, _, rfl, by omega, by go_num, by rw [Ht.out]; exact hown2, hb1, grown_more Hg.out hg1 ?_, ?_⟩, by simp [intOf]; omega⟩
      · rcases Hr.out with h | ⟨g, h, hg⟩
        · exact .inl h
        · exact .inr ⟨g, h, hg⟩
      · rcases hr1 with h | h
        · rw [h]; exact Hr.out
        · exact .inr ⟨_, h, by have := Hg.out.size; omega⟩
    · obtain rfl : k = N := by omega
      go_wp2
      go_ret
      exact ⟨_, rfl, by have := Hown1.out; rwa [HN.out, List.take_length] at this, Hb.out, Hg.out, Hr.out⟩
end Go.Proofs.Ytfmmececocilhaa.Hu
