/-
  The walk of the statement WireOwn.
-/
import Derived.Test.YtiomhbajbbpmiaaWP

namespace Go.Proofs.Ytiomhbajbbpmiaa.Wr
open Go Go.RowKit Kt

theorem wpList_cat' {P : Program} {ops : Array Oper} {rest : List Oper} {o : Oper} {a : Act} {Q : Exit → Act → World → Prop} {w : World} {E : TypeId}
    (hgd : o.guard = none) (s x : Operand) (t : TypeId) (ho : o.op = .call { callee := .builtin .append, args := #[s, x], argTypes := #[t, t] })
    (ht : P.underlying t = some (.slice E)) (hi : (P.info? E).map (fun i => (i.zero, i.size, i.bytes)) = some (some (.int .u8 0), 1, 1))
    (B : Nat) (w0 : World) (v : Value) (l bs : List UInt8) (n : Nat) (hn : bs.length = n) (Pb : Nat → Prop) (A : Option Addr) (c : Nat) (hs : a.eval s = v) (hx : a.eval x = .slice A n c)
    (hown : Own w B E v l) (hsl : Sl w Pb A c bs) (hlen : l.length + bs.length ≤ 70368744177664) (hb : Below B w0 w) (hbase : B ≤ w.heap.size)
    (h : ∀ v' w', Own w' B E v' (l ++ bs) → Below B w0 w' → w.grownBy w' v.ownBlock → wpList P ops Q rest (a.put o.dst v') w') : wpList P ops Q (o :: rest) a w := by
  subst hn
  exact wpList_cat hgd s x t ho ht hi B w0 v l bs Pb A c hs hx hown hsl hlen hb hbase h

set_option maxHeartbeats 2000000 in
set_option maxRecDepth 100000 in
theorem own_late (x : List UInt8) (at_ v : Nat) (A : Option Addr) (c : Nat) (Pb : Nat → Prop) (w : World) (hs : Sl w Pb A c x) (hat : at_ < 65536) (_hv : v < 256) (h0 : 0 < x.length) (h2 : x.length ≤ 200) :
    Calls Try.prog 8 #[.slice A x.length c, .int .u16 (at_ : Int), .int .u8 (v : Int)] w fun e w' => e = .returned (.bool true) ∧ Below w.heap.size w w' := by
  have Hs := hide hs
  clear hs
  obtain ⟨N, hN⟩ : ∃ N, N = x.length := ⟨_, rfl⟩
  rw [← hN] at h0 h2 ⊢
  have HN := hide hN
  clear hN
  have hb0 : ((N : Int) == 0) = false := beq_eq_false_iff_ne.2 (by omega)
  obtain ⟨k, hk⟩ : ∃ k, k = at_ % N := ⟨_, rfl⟩
  have hmod : (at_ : Int).tmod (N : Int) = (k : Int) := by rw [hk]; rfl
  have hmod2 : (at_ : Int) % (N : Int) = (k : Int) := by rw [hk]; rfl
  have hkN : k < N := by rw [hk]; exact Nat.mod_lt _ (by omega)
  clear hk
  have Hf := hide (form_short N 10 (by omega) (by omega))
  obtain ⟨F, hF⟩ : ∃ F, (form N).length = F := ⟨_, rfl⟩
  have hF10 : F ≤ 10 := by have := Hf.out; omega
  obtain ⟨L, hL⟩ : ∃ L, form N ++ x = L := ⟨_, rfl⟩
  have hLl : L.length = F + N := by rw [← hL, List.length_append, hF, ← HN.out]
  have HL := hide hL
  have HLl := hide hLl
  clear hL hF hLl
  go_enter Try.func8, Try.ntmps8
  go_wp2_with (go_at_call 10; refine (awake_any _).mono ?_; rintro e w1 ⟨rfl, hb1⟩; have Hb1 := hide hb1; clear hb1)
  have htp := text_put [] x none 0 A c _ Pb w1 (Sl.nil _ (fun _ => True) _ _) (Hs.out.belowAll Hb1.out) (by have := HN.out; simp; omega)
  rw [← HN.out, List.nil_append, List.length_nil] at htp
  refine htp.mono ?_
  rintro y w2 ⟨v2, rfl, hv2, hb2⟩
  rw [HL.out] at hv2
  obtain ⟨A2, c2, rfl, hs2⟩ := Is.own hv2
  have Hs2 : Hid (Sl w2 (fun _ => True) A2 c2 L) := hide (hs2.imp fun _ _ _ => trivial)
  have Hb2 := hide (Hb1.out.trans (hb2.mono Hb1.out.size))
  clear hv2 hs2 hb2 htp
  go_wp2_with (at_builtin; go_loud (refine wpList_cat rfl (.tmp 33) (.tmp 34) 22 rfl Try.underlying22 info8 w2.heap.size w2 _ [] L (fun _ => True) A2 c2 rfl rfl (Own.made w2 w2.heap.size 5 #[] 0 (Nat.le_refl _) rfl (Nat.zero_le _)) ?qs ?ql ?qb ?qz ?_; rotate_left 4; intro v3 w3 hown3 hb3 _; obtain ⟨g3, cap3, rfl, hg3, hg3'⟩ := Own.form hown3 (by have := HLl.out; simp; omega); have Hown3 : Hid (Own w3 w2.heap.size 5 (.slice (some ⟨g3, 0, none⟩) L.length cap3) L) := hide (by simpa using hown3); have Hb3 := hide hb3; have Hg3 := hide hg3; have Hg3' := hide hg3'; clear hown3 hb3 hg3 hg3'))
  case qs => exact Hs2.out.move fun b _ hb => Below.heap_alloc w2 _ b hb
  case ql => have := HLl.out; simp; omega
  case qb => exact (Below.refl _ _).alloc (Nat.le_refl _) _
  case qz => simp
  have hs3 : Sl w3 (fun _ => True) (some ⟨g3, 0, none⟩) cap3 L := by
    obtain ⟨A', c', he, hs'⟩ := Is.own Hown3.out
    injection he with e1 e2 e3
    rw [e1, e3]
    exact hs'.imp fun _ _ _ => trivial
  refine (open_any L _ cap3 _ w3 hs3 (by have := HLl.out; omega)).mono ?_
  rintro y w4 ⟨g4, rfl, hr4, hb4⟩
  have Hr4 := hide hr4
  have Hb4 := hide hb4
  have Hg4 := hide (show g3 < g4 by have := hr4.from; have := Hg3'.out; omega)
  have Hcap := hide hs3.1
  clear hr4 hb4 hs3
  have hidx : (L.length : Int) - (N : Int) + (k : Int) = ((F + k : Nat) : Int) := by have := HLl.out; omega
  have hLk : F + k < L.length := by have := HLl.out; omega
  obtain ⟨cur, hcur⟩ : ∃ cur, w4.heap[g3]? = some (.cells cur 5 (0, 0)) := by
    rcases Hown3.out.2 with ⟨he, _⟩ | ⟨g, cap, cur, he, _, hh, _⟩
    · cases he
    · injection he with e1 e2 e3
      injection e1 with e1
      injection e1 with e1
      subst e1
      exact ⟨cur, (Hb4.out.block g3 Hg3'.out).trans hh⟩
  have cst : w4.cell? ⟨g3, F + k, none⟩ = some (.int .u8 ((L.getD (F + k) 0).toNat : Int)) := (World.cell?_of_block (a := ⟨g3, F + k, none⟩) (Hb4.out.block g3 Hg3'.out)).trans (Own.cells Hown3.out _ hLk)
  have fst : w4.frozen? ⟨g3, F + k, none⟩ = false := frozen_of_row w4 g3 (F + k) cur 5 hcur
  go_wp2_with (fail)
  have hb5 := below_put (Hb2.out.trans ((Hb3.out.trans (Hb4.out.mono Hb3.out.size)).mono Hb2.out.size)) (g := g3) (i := F + k) (by have := Hg3.out; have := Hb2.out.size; omega) (.int .u8 (v : Int))
  have hr5 := Hr4.out.only ((Only.refl (· = g3) w4).put (g := g3) (i := F + k) rfl (.int .u8 (v : Int))) (fun b hb _ he => by have := Hg3'.out; omega)
  obtain ⟨w5, hw5⟩ : ∃ w5, w5 = w4.setCell ⟨g3, F + k, none⟩ (.int .u8 (v : Int)) := ⟨_, rfl⟩
  rw [← hw5] at hb5 hr5 ⊢
  have Hb5 := hide hb5
  have Hr5 := hide hr5
  clear hw5 hb5 hr5 cst fst hcur
  refine (read_text 200 Hr5.out (by omega)).mono ?_
  rintro y w6 ⟨v6, rfl, hv6, _, ho6⟩
  have hst : (stepText L 0 200).1 = x := by
    have := stepText_put x [] 200 (by have := HN.out; omega) (by have := HN.out; omega)
    rw [List.append_nil, ← HN.out, HL.out] at this
    rw [this]
  rw [hst] at hv6
  obtain ⟨A6, c6, rfl, hs6⟩ := Is.own hv6
  rw [← HN.out]
  have Hs6 : Hid (Sl w6 (fun _ => True) A6 c6 x) := hide (hs6.imp fun _ _ _ => trivial)
  have Hb6 := hide (ho6.below Hb5.out Hb5.out.size fun b hb he => by have := Hg4.out; have := Hg3.out; have := Hb2.out.size; omega)
  clear hst hv6 hs6 ho6
  have hmk := make500
  go_wp2_with (at_builtin; go_loud (refine wpList_cat' rfl (.tmp 52) (.tmp 53) 22 rfl Try.underlying22 info8 w6.heap.size w6 _ [] x N HN.out.symm (fun _ => True) A c rfl rfl (Own.made w6 w6.heap.size 5 _ 500 (Nat.le_refl _) (by simp [u8s]) (by simp [maxLen])) ?qs ?ql ?qb ?qz ?_; rotate_left 4; intro v7 w7 hown7 hb7 _; have Hown7 := hide hown7; have Hb7 := hide hb7; clear hown7 hb7))
  case qs => exact ((Hs.out.belowAll Hb6.out).move fun b _ hb => Below.heap_alloc w6 _ b hb).imp fun _ _ _ => trivial
  case ql => have := HN.out; simp; omega
  case qb => exact (Below.refl _ _).alloc (Nat.le_refl _) _
  case qz => simp
  have Hb7' := hide (Hb6.out.trans (Hb7.out.mono Hb6.out.size))
  obtain ⟨A7, c7, rfl, hs7⟩ := Is.own Hown7.out
  simp only [List.nil_append] at hs7 ⊢
  rw [← HN.out]
  have Hs7 : Hid (Sl w7 (fun _ => True) A7 c7 x) := hide (hs7.imp fun _ _ _ => trivial)
  clear hs7
  have hn5 := num_any x 5 A7 c7 _ w7 Hs7.out (by omega) (by have := HN.out; omega)
  rw [form_lt (by omega)] at hn5
  obtain ⟨L5, hL5⟩ : ∃ L5, x ++ [UInt8.ofNat 5] = L5 := ⟨_, rfl⟩
  have hl5 : L5.length = N + 1 := by rw [← hL5, List.length_append, HN.out]; rfl
  have hg5 : (L5.getD N 0).toNat = 5 := by rw [← hL5, HN.out]; simp
  rw [hL5, ← HN.out] at hn5
  clear hL5
  refine hn5.mono ?_
  rintro y w8 ⟨v8, rfl, hv8, hb8⟩
  obtain ⟨A8, c8, rfl, hs8⟩ := Is.own hv8
  rw [hl5]
  have Hs8 := hide hs8
  have Hb8 := hide (Hb7'.out.trans (hb8.mono Hb7'.out.size))
  have Hs7' := hide (Hs7.out.belowAll hb8)
  have H68 := hide (Hb7.out.trans (hb8.mono Hb7.out.size))
  clear hn5 hv8 hs8 hb8
  go_wp2_with (fail)
  have hn6 := num_any x 6 A7 c7 _ w8 Hs7'.out (by omega) (by have := HN.out; omega)
  rw [form_lt (by omega)] at hn6
  obtain ⟨L6, hL6⟩ : ∃ L6, x ++ [UInt8.ofNat 6] = L6 := ⟨_, rfl⟩
  have hl6 : L6.length = N + 1 := by rw [← hL6, List.length_append, HN.out]; rfl
  have hg6 : (L6.getD N 0).toNat = 6 := by rw [← hL6, HN.out]; simp
  rw [hL6, ← HN.out] at hn6
  clear hL6
  refine hn6.mono ?_
  rintro y w9 ⟨v9, rfl, hv9, hb9⟩
  obtain ⟨A9, c9, rfl, hs9⟩ := Is.own hv9
  rw [hl6]
  have Hs9 := hide hs9
  have Hs8' := hide (Hs8.out.belowAll hb9)
  have Hb9 := hide (Hb8.out.trans (hb9.mono Hb8.out.size))
  have Hs6' := hide (Hs6.out.belowAll (H68.out.trans (hb9.mono H68.out.size)))
  clear hn6 hv9 hs9 hb9
  go_wp2_with (fail)
  have hbt := bytes_any x x A6 A c6 c _ _ w9 Hs6'.out (Hs.out.belowAll Hb9.out) (by have := HN.out; omega)
  rw [← HN.out] at hbt
  refine hbt.mono ?_
  rintro y w10 ⟨rfl, hb10⟩
  simp only [decide_true]
  obtain ⟨b8, o8, rfl, _, hc8⟩ := (Hs8'.out.belowAll hb10).2 (by omega)
  obtain ⟨b9, o9, rfl, _, hc9⟩ := (Hs9.out.belowAll hb10).2 (by omega)
  have c8N := hc8 N (by omega)
  have c9N := hc9 N (by omega)
  rw [hg5] at c8N
  rw [hg6] at c9N
  have hx8 := Hs8'.out.1
  have hx9 := Hs9.out.1
  rw [hl5] at hx8
  rw [hl6] at hx9
  have Hb10 := hide (Hb9.out.trans (hb10.mono Hb9.out.size))
  clear hbt hb10 hc8 hc9 hg5 hg6 hl5 hl6
  go_wp2
  go_ret
  exact ⟨rfl, Hb10.out⟩
end Go.Proofs.Ytiomhbajbbpmiaa.Wr
