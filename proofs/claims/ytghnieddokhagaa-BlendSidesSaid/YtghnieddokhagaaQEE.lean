/-
  append of an edit; diff.add.
-/
import Derived.Test.YtghnieddokhagaaQJH
import Derived.BigQuiet
import Derived.Test.YtghnieddokhagaaQEB
import Derived.Test.YtghnieddokhagaaQTE
import Derived.Test.YtghnieddokhagaaQReg
import Derived.Laws.ResultCell
namespace Go.Proofs.Ytghnieddokhagaa.Df
open Go Go.RowKit Kt Lw

theorem infoText : (Try.prog.info? 9).map (fun i => (i.zero, i.size, i.bytes)) = some (some (.string ⟨#[]⟩), 1, 16) := by kernel_rfl
theorem infoEd : (Try.prog.info? 110).map (fun i => (i.zero, i.size, i.bytes)) = some (some (.agg #[.int .i64 0, .int .i64 0, .slice none 0 0]), 3, 40) := by kernel_rfl
theorem OwT.one {w : World} {B : Nat} {v : Value} {l : Ls} (h : OwT w B tS v l) : v.oneCell' = true := by
  rcases h.2 with ⟨rfl, _⟩ | ⟨g, cap, cur, rfl, _⟩ <;> rfl
theorem grown_then {a b c : World} {r : Option Nat} (h : a.grownBy b none) (k : b.grownBy c r) : a.grownBy c r :=
  ⟨k.os.trans h.os, k.tape.trans h.tape, k.output.trans h.output, Nat.le_trans h.size k.size, fun i hi hne => (k.block i (Nat.lt_of_lt_of_le hi h.size) hne).trans (h.block i hi (by simp))⟩
/-- append(l, one edit) onto a row of edits of the call's own -/
theorem wp_pushE {o : Oper} {a : Act} {K : Act → World → Prop} {Q : Exit → Act → World → Prop} {W : World} (s x : Operand)
    (ho : o.op = .call { callee := .builtin .append, args := #[s, x], argTypes := #[85, 85] })
    (B : Nat) (w0 : World) (v vi : Value) (L : List Ed) (e : Ed) (cs : Array Value) (hs : a.eval s = v) (hx : a.eval x = .slice (some ⟨W.heap.size, 0, none⟩) 1 1) (hc : cs = (edC e vi).toArray)
    (hown : OwE W B v L) (hvi : OwT W B tS vi e.ins) (hlen : L.length + 1 ≤ 1000000000) (hb : Below B w0 W) (hbase : B ≤ W.heap.size)
    (h : ∀ v' w', OwE w' B v' (L ++ [e]) → Below B w0 w' → W.grownBy w' v.ownBlock → K (a.put o.dst v') w') : o.wp Try.prog a (W.alloc (.cells cs tE)) K Q := by
  obtain ⟨i0, hi0, hz0, hz1, hz2⟩ := info_parts infoEd
  subst hc
  obtain ⟨V, hV, hr, hi⟩ := hown
  refine wp_append_own _ s x 85 ho B tE i0 (.agg #[.int .i64 0, .int .i64 0, .slice none 0 0]) 3 40 Try.underlying85 hi0 hz0 hz1 hz2 rfl (by omega) v L.length (V.flatMap pairC) hs (World.ownsRow.alloc hr _)
    ⟨W.heap.size, 0, none⟩ 1 1 (edC e vi) hx rfl (fun j u hu => ?_) ?_ (by unfold maxLen; omega) (by omega) (by simp; omega) (fun v' w' h1 h2 _ => ?_)
  · rw [Addr.add_mid, (Row.fresh W tE (edC e vi).toArray).cell]
    simpa using hu
  · intro u hu
    simp only [edC, List.mem_cons, List.not_mem_nil, or_false] at hu
    rcases hu with rfl | rfl | rfl
    · rfl
    · rfl
    · exact OwT.one hvi
  · have hg := grownBy_back _ h2
    exact h v' w' (OwE.append V hV hr hi hvi h1 hg) (hb.grown hg hbase fun k hk => (World.ownsRow.lt hr k hk).1) hg
theorem wpList_pushE {ops : Array Oper} {rest : List Oper} {o : Oper} {a : Act} {Q : Exit → Act → World → Prop} {W : World} (hgd : o.guard = none) (s x : Operand)
    (ho : o.op = .call { callee := .builtin .append, args := #[s, x], argTypes := #[85, 85] })
    (B : Nat) (w0 : World) (v vi : Value) (L : List Ed) (e : Ed) (cs : Array Value) (hs : a.eval s = v) (hx : a.eval x = .slice (some ⟨W.heap.size, 0, none⟩) 1 1) (hc : cs = (edC e vi).toArray)
    (hown : OwE W B v L) (hvi : OwT W B tS vi e.ins) (hlen : L.length + 1 ≤ 1000000000) (hb : Below B w0 W) (hbase : B ≤ W.heap.size)
    (h : ∀ v' w', OwE w' B v' (L ++ [e]) → Below B w0 w' → W.grownBy w' v.ownBlock → wpList Try.prog ops Q rest (a.put o.dst v') w') : wpList Try.prog ops Q (o :: rest) a (W.alloc (.cells cs tE)) :=
  wpList_plain hgd fun _ hK => wp_pushE s x ho B w0 v vi L e cs hs hx hc hown hvi hlen hb hbase fun v' w' h1 h2 h3 => hK _ _ (h v' w' h1 h2 h3)

/-- an edit, if it has a line that goes, or comes -/
def emitI (pos del : Int) (ins : Ls) : List Ed := if del = 0 ∧ ins = [] then [] else [⟨pos, del, ins⟩]
theorem emitI_nat (pos del : Nat) (ins : Ls) : emitI pos del ins = emit pos del ins := by
  unfold emitI emit
  by_cases h : del = 0 ∧ ins = []
  · rw [if_pos h, if_pos ⟨by omega, h.2⟩]
  · rw [if_neg h, if_neg (fun k => h ⟨by omega, k.2⟩)]

set_option maxHeartbeats 1000000 in
set_option maxRecDepth 100000 in
theorem add_any (B : Nat) (v : Value) (L : List Ed) (pos del : Int) (ins : Ls) (A : Option Addr) (c : Nat) (P : Nat → Prop) (w : World) (hown : OwE w B v L) (hs : Vs w P A c (texts ins))
    (hB : B ≤ w.heap.size) (hl : L.length + 1 ≤ 1000000000) (hn : ins.length ≤ 1000000000) :
    Calls Try.prog 75 #[v, .int .i64 pos, .int .i64 del, .slice A ins.length c] w fun y w' => ∃ v', y = .returned v' ∧ OwE w' B v' (L ++ emitI pos del ins) ∧ Below B w w' ∧ w.grownBy w' v.ownBlock := by
  have hB0 : Below B w w := Below.refl _ _
  by_cases h : del = 0 ∧ ins = []
  · obtain ⟨rfl, rfl⟩ := h
    have Hown := hide hown
    clear hown
    go_enter Try.func75, Try.ntmps75
    go_wp2
    go_ret
    exact ⟨_, rfl, by rw [show emitI pos 0 [] = [] from rfl, List.append_nil]; exact Hown.out, hB0, World.grownBy.refl _ _⟩
  · have He := hide (show emitI pos del ins = [⟨pos, del, ins⟩] from if_neg h)
    have hcase : ((del == 0) = false) ∨ ((del == 0) = true ∧ ((ins.length : Int) == 0) = false) := by
      by_cases hd : del = 0
      · refine .inr ⟨by rw [hd]; rfl, ?_⟩
        rw [beq_eq_false_iff_ne]
        have := List.length_pos_iff.2 fun k => h ⟨hd, k⟩
        omega
      · exact .inl (by rw [beq_eq_false_iff_ne]; exact hd)
    have Hown := hide hown
    have Hs := hide hs
    have HB := hide hB
    have Hn := hide hn
    have Hl := hide hl
    clear h hown hs hB hl hn
    rcases hcase with d1 | ⟨d1, d2⟩
    · go_enter Try.func75, Try.ntmps75
      go_wp2_with (first | (refine wpList_catT rfl _ (.tmp 20) 25 rfl Try.underlying25 infoText B w (.slice none 0 0) [] ins P A c rfl rfl (OwT.nil _ _ _) Hs.out (by have := Hn.out; simp; omega) hB0 HB.out ?_; intro vi w1 hvi hb1 hg1; rw [List.nil_append] at hvi; have hown1 : OwE w1 B v L := Hown.out.move (B' := w.heap.size) ⟨hb1.os, hb1.tape, hb1.output, hg1.size, fun k hk => hg1.block k hk (by simp [Value.ownBlock])⟩ (Nat.le_refl _); obtain ⟨Ai, ci, rfl, _⟩ := OwT.vs hvi; have Hvi := hide hvi; have Hown1 := hide hown1; have Hb1 := hide hb1; have Hg1 := hide hg1; clear hvi hown1 hb1 hg1) | (refine wpList_pushE rfl (.tmp 17) (.tmp 23) rfl B w _ _ L ⟨pos, del, ins⟩ _ rfl rfl rfl Hown1.out Hvi.out Hl.out Hb1.out (Nat.le_trans HB.out Hb1.out.size) ?_; intro v' w2 hown2 hb2 hg2; have Hg2 := hide hg2; have Hown2 := hide hown2; have Hb2 := hide hb2; clear hown2 hb2 hg2))
      go_ret
      exact ⟨_, rfl, by rw [He.out]; exact Hown2.out, Hb2.out, grown_then Hg1.out Hg2.out⟩
    · go_enter Try.func75, Try.ntmps75
      go_wp2_with (first | (refine wpList_catT rfl _ (.tmp 20) 25 rfl Try.underlying25 infoText B w (.slice none 0 0) [] ins P A c rfl rfl (OwT.nil _ _ _) Hs.out (by have := Hn.out; simp; omega) hB0 HB.out ?_; intro vi w1 hvi hb1 hg1; rw [List.nil_append] at hvi; have hown1 : OwE w1 B v L := Hown.out.move (B' := w.heap.size) ⟨hb1.os, hb1.tape, hb1.output, hg1.size, fun k hk => hg1.block k hk (by simp [Value.ownBlock])⟩ (Nat.le_refl _); obtain ⟨Ai, ci, rfl, _⟩ := OwT.vs hvi; have Hvi := hide hvi; have Hown1 := hide hown1; have Hb1 := hide hb1; have Hg1 := hide hg1; clear hvi hown1 hb1 hg1) | (refine wpList_pushE rfl (.tmp 17) (.tmp 23) rfl B w _ _ L ⟨pos, del, ins⟩ _ rfl rfl rfl Hown1.out Hvi.out Hl.out Hb1.out (Nat.le_trans HB.out Hb1.out.size) ?_; intro v' w2 hown2 hb2 hg2; have Hg2 := hide hg2; have Hown2 := hide hown2; have Hb2 := hide hb2; clear hown2 hb2 hg2))
      go_ret
      exact ⟨_, rfl, by rw [He.out]; exact Hown2.out, Hb2.out, grown_then Hg1.out Hg2.out⟩
end Go.Proofs.Ytghnieddokhagaa.Df
namespace Go.Proofs.Ytghnieddokhagaa.Df
open Go Go.RowKit Kt Lw

theorem vs_cut {w : World} {P : Nat → Prop} {A : Option Addr} {c : Nat} {l : Ls} (h : Vs w P A c (texts l)) {i j : Nat} (hij : i ≤ j) (hj : j ≤ l.length) :
    Vs w P (if c = i then A else A.map (·.add i)) (c - i) (texts ((l.drop i).take (j - i))) := by
  have h1 := h.1
  rw [texts_len] at h1
  refine ⟨by rw [texts_len, List.length_take, List.length_drop]; omega, fun hn => ?_⟩
  rw [texts_len, List.length_take, List.length_drop] at hn
  obtain ⟨b, o, rfl, hp, hc⟩ := h.2 (by rw [texts_len]; omega)
  rw [if_neg (by omega)]
  refine ⟨b, o + i, by simp [Addr.add_mid], hp, fun k v hk => ?_⟩
  have hkl := (List.getElem?_eq_some_iff.1 hk).1
  rw [texts_len, List.length_take, List.length_drop] at hkl
  rw [show o + i + k = o + (i + k) from by omega]
  refine hc (i + k) v ?_
  rw [← hk]
  unfold texts
  rw [List.getElem?_map, List.getElem?_map, List.getElem?_take, if_pos (by omega), List.getElem?_drop]

theorem own_ne {w : World} {B g : Nat} {v : Value} {l : Ls} {cs : List Value} (hrow : Row w g tE cs) (hown : OwT w B tS v l) : some g ≠ v.ownBlock := by
  intro h
  rcases hown.2 with ⟨rfl, _⟩ | ⟨g', cap', cur', rfl, _, hgg', _⟩
  · cases h
  · simp only [Value.ownBlock, Option.some.injEq] at h
    subst h
    unfold Row at hrow
    rw [hgg'] at hrow
    simp [tS, tE] at hrow
theorem run_cut2 (w : World) (A : Option Addr) (n c i j : Nat) (hij : i ≤ j) (hj : j ≤ c) :
    (Instr.slice 25 (.slice A n c) (some (.int .i64 (i : Int))) (some (.int .i64 (j : Int))) none).run Try.prog w = .ok (.slice (if c = i then A else A.map (·.add i)) (j - i) (c - i)) w := by
  have hu := run_underlying Try.underlying25
  cases A with
  | none => go_simp
  | some ad => go_simp
theorem run_cut1 (w : World) (A : Option Addr) (n c i : Nat) (hi : i ≤ n) :
    (Instr.slice 25 (.slice A n c) (some (.int .i64 (i : Int))) none none).run Try.prog w = .ok (.slice (if c = i then A else A.map (·.add i)) (n - i) (c - i)) w := by
  have hu := run_underlying Try.underlying25
  cases A with
  | none => go_simp
  | some ad => go_simp

end Go.Proofs.Ytghnieddokhagaa.Df
namespace Go.Proofs.Ytghnieddokhagaa.Al
open Go Go.RowKit Kt Lw Li Df
attribute [local irreducible] ByteArray.toList

set_option maxHeartbeats 1000000 in
set_option maxRecDepth 100000 in
theorem equal_any (l r : List (List UInt8)) (A A' : Option Addr) (c c' : Nat) (P P' : Nat → Prop) (w : World) (hs : Vs w P A c (texts l)) (hs' : Vs w P' A' c' (texts r)) (hl : l.length ≤ 9223372036854775807) :
    Calls Try.prog 93 #[.slice A l.length c, .slice A' r.length c'] w fun y w' => y = .returned (.bool (decide (l = r))) ∧ Below w.heap.size w w' := by
  by_cases hlen : l.length = r.length
  · have Hs := hide hs.bound
    have Hs' := hide hs'.bound
    clear hs hs'
    have hb0 : ((l.length : Int) != (r.length : Int)) = false := by rw [bne_eq_false_iff_eq]; omega
    have Hlen := hide hlen
    obtain ⟨N, hN⟩ : ∃ N, N = l.length := ⟨_, rfl⟩
    obtain ⟨N', hN'⟩ : ∃ N', N' = r.length := ⟨_, rfl⟩
    rw [← hN, ← hN'] at hb0 ⊢
    have HN := hide hN
    have HN' := hide hN'
    have hNl : N ≤ 9223372036854775807 := by omega
    have hNN : N = N' := by omega
    have HNN := hide hNN
    clear hN hN' hl hlen hNN
    go_enter Try.func93, Try.ntmps93
    go_wp2
    go_loopw [13] (fun i wr => ∃ k : Nat, k ≤ N ∧ i = .int .i64 k ∧ (∀ j, j < k → l.getD j [] = r.getD j []) ∧ Below w.heap.size w wr) (fun i _ => N - (intOf i).toNat)
    case atStart => exact ⟨0, Nat.zero_le _, rfl, fun j h => absurd h (Nat.not_lt_zero _), Below.refl _ _⟩
    case round =>
      obtain ⟨k, hk, rfl, hall, hb⟩ := hrel
      have Hall := hide hall
      have Hb := hide hb
      clear hall hb
      by_cases hlt : k < N
      · obtain ⟨b, o, rfl, ck⟩ := Hs.out.text Hb.out (k := k) (by have := HN.out; omega)
        obtain ⟨b', o', rfl, ck'⟩ := Hs'.out.text Hb.out (k := k) (by have := HN'.out; have := HNN.out; omega)
        have hlt' : k < N' := by have := HNN.out; omega
        by_cases hx : l.getD k [] = r.getD k []
        · have Hx := hide hx
          rw [hx] at ck
          clear hx
          generalize (r.getD k []).toArray = x at *
          go_wp2
          go_quiet (fail)
          go_wp2
          refine ⟨⟨k + 1, by omega, by go_num, fun j hj => ?_, below_drewN Hb.out _⟩, by simp [intOf]; omega⟩
          rcases Nat.lt_or_ge j k with hj' | hj'
          · exact Hall.out j hj'
          · obtain rfl : j = k := by omega
            exact Hx.out
        · have hxn := eq_txt (l.getD k []) (r.getD k [])
          rw [decide_eq_false hx] at hxn
          have Hx := hide hx
          clear hx
          generalize (r.getD k []).toArray = x at *
          generalize (l.getD k []).toArray = y at *
          go_wp2
          go_quiet (fail)
          go_wp2
          go_ret
          refine ⟨?_, below_drewN Hb.out _⟩
          have hd : decide (l = r) = false := decide_eq_false fun h => Hx.out (by rw [h])
          rw [hd]; rfl
      · obtain rfl : k = N := by omega
        go_wp2
        go_ret
        refine ⟨?_, Hb.out⟩
        have hd : decide (l = r) = true := decide_eq_true (texts_same l r Hlen.out fun j hj => Hall.out j (by have := HN.out; omega))
        rw [hd]; rfl
  · have hb0 : ((l.length : Int) != (r.length : Int)) = true := by rw [bne_iff_ne]; omega
    have Hd := hide (show decide (l = r) = false from decide_eq_false fun h => hlen (by rw [h]))
    clear hs hs' hlen
    go_enter Try.func93, Try.ntmps93
    go_wp2
    go_ret
    exact ⟨by rw [Hd.out]; rfl, Below.refl _ _⟩


abbrev tC : TypeId := 93
abbrev tL : TypeId := 88
abbrev tPs : TypeId := 84
def clC (c : Cl) : List Value := [.int .i64 c.fr, .int .i64 c.to, .int .i64 c.n0, .int .i64 c.m0, .int .i64 c.n1, .int .i64 c.m1]
def sideV (s : Bool) : Value := .int .i64 (if s then 1 else 0)
set_option maxRecDepth 100000 in
theorem none_any (g : Nat) (n0 n1 : Int) (w : World) (c2 : w.cell? ⟨g, 2, none⟩ = some (.int .i64 n0)) (c4 : w.cell? ⟨g, 4, none⟩ = some (.int .i64 n1)) :
    Calls Try.prog 78 #[.pointer (some ⟨g, 0, none⟩)] w fun y w' => y = .returned (.bool (decide (n0 = 0 ∧ n1 = 0))) ∧ w' = w := by
  by_cases h0 : n0 = 0
  · subst h0
    go_enter Try.func78, Try.ntmps78
    go_wp2
    go_ret
    exact ⟨by by_cases h : n1 = 0 <;> simp [h], rfl⟩
  · have e0 : (n0 == 0) = false := by rw [beq_eq_false_iff_ne]; exact h0
    go_enter Try.func78, Try.ntmps78
    go_wp2
    go_ret
    exact ⟨by simp [h0], rfl⟩
set_option maxRecDepth 100000 in
set_option maxHeartbeats 1000000 in
theorem kind_any (g : Nat) (c : Cl) (p q : Ls) (A A' : Option Addr) (k k' : Nat) (P P' : Nat → Prop) (w : World) (hr : Row w g tC (clC c)) (hs : Vs w P A k (texts p)) (hs' : Vs w P' A' k' (texts q)) (hl : p.length ≤ 9223372036854775807) :
    Calls Try.prog 82 #[.pointer (some ⟨g, 0, none⟩), .slice A p.length k, .slice A' q.length k'] w fun y w' => y = .returned (.int .i64 (kindOf c p q)) ∧ Below w.heap.size w w' := by
  have c2 := hr.cell 2
  have c4 := hr.cell 4
  simp only [clC, List.getElem?_cons_zero, List.getElem?_cons_succ] at c2 c4
  have HN := hide (none_any g c.n0 c.n1 w c2 c4)
  have HE := hide (equal_any p q A A' k k' P P' w hs hs' hl)
  obtain ⟨n0, hn0⟩ : ∃ z, z = c.n0 := ⟨_, rfl⟩
  obtain ⟨n1, hn1⟩ : ∃ z, z = c.n1 := ⟨_, rfl⟩
  unfold kindOf
  rw [← hn0, ← hn1] at HN ⊢
  rw [← hn0] at c2
  rw [← hn1] at c4
  clear hn0 hn1 hr hs hs' hl
  by_cases k0 : n0 = 0
  · by_cases k1 : n1 = 0
    · rw [if_pos ⟨k0, k1⟩]
      rw [decide_eq_true (show n0 = 0 ∧ n1 = 0 from ⟨k0, k1⟩)] at HN
      clear k0 k1 c2 c4
      go_enter Try.func82, Try.ntmps82
      go_wp2_with fail
      refine HN.out.mono ?_
      rintro y w2 ⟨rfl, rfl⟩
      go_wp2
      go_ret
      exact ⟨rfl, Below.refl _ _⟩
    · rw [if_neg (fun h => k1 h.2), if_neg k1, if_pos k0]
      rw [decide_eq_false (show ¬ (n0 = 0 ∧ n1 = 0) from fun h => k1 h.2)] at HN
      have e1 : (n1 == 0) = false := by rw [beq_eq_false_iff_ne]; exact k1
      have e0 : (n0 == 0) = true := by rw [beq_iff_eq]; exact k0
      clear k0 k1
      go_enter Try.func82, Try.ntmps82
      go_wp2_with fail
      refine HN.out.mono ?_
      rintro y w2 ⟨rfl, rfl⟩
      go_wp2
      go_ret
      exact ⟨rfl, Below.refl _ _⟩
  · have e0 : (n0 == 0) = false := by rw [beq_eq_false_iff_ne]; exact k0
    rw [if_neg (fun h => k0 h.1)]
    rw [decide_eq_false (show ¬ (n0 = 0 ∧ n1 = 0) from fun h => k0 h.1)] at HN
    by_cases k1 : n1 = 0
    · rw [if_pos k1]
      have e1 : (n1 == 0) = true := by rw [beq_iff_eq]; exact k1
      clear k0 k1
      go_enter Try.func82, Try.ntmps82
      go_wp2_with fail
      refine HN.out.mono ?_
      rintro y w2 ⟨rfl, rfl⟩
      go_wp2
      go_ret
      exact ⟨rfl, Below.refl _ _⟩
    · rw [if_neg k1, if_neg k0]
      have e1 : (n1 == 0) = false := by rw [beq_eq_false_iff_ne]; exact k1
      clear k0 k1
      obtain ⟨np, hnp⟩ : ∃ z, z = p.length := ⟨_, rfl⟩
      obtain ⟨nq, hnq⟩ : ∃ z, z = q.length := ⟨_, rfl⟩
      rw [← hnp, ← hnq] at HE ⊢
      clear hnp hnq
      by_cases hpq : p = q
      · rw [if_pos hpq]
        rw [decide_eq_true hpq] at HE
        clear hpq
        go_enter Try.func82, Try.ntmps82
        go_wp2_with fail
        refine HN.out.mono ?_
        rintro y w2 ⟨rfl, rfl⟩
        go_wp2_with fail
        refine HE.out.mono ?_
        rintro y w3 ⟨rfl, hb⟩
        go_wp2
        go_ret
        exact ⟨rfl, hb⟩
      · rw [if_neg hpq]
        rw [decide_eq_false hpq] at HE
        clear hpq
        go_enter Try.func82, Try.ntmps82
        go_wp2_with fail
        refine HN.out.mono ?_
        rintro y w2 ⟨rfl, rfl⟩
        go_wp2_with fail
        refine HE.out.mono ?_
        rintro y w3 ⟨rfl, hb⟩
        go_wp2
        go_ret
        exact ⟨rfl, hb⟩
end Go.Proofs.Ytghnieddokhagaa.Al
namespace Go.Proofs.Ytghnieddokhagaa.Al
open Go Go.RowKit Kt Lw Li Df

abbrev tSp : TypeId := 67
abbrev tR : TypeId := 69
set_option maxRecDepth 100000 in
set_option maxHeartbeats 1000000 in
theorem rnext_any (g k : Nat) (x m : Int) (w : World) (c1 : w.cell? ⟨g, k + 1, none⟩ = some (.int .i64 x)) :
    Calls Try.prog 80 #[.pointer (some ⟨g, k, none⟩), .int .i64 m] w fun y w' => y = .returned (.agg #[.int .i64 x, .int .i64 m]) ∧ Below w.heap.size w w' := by
  have hlt := World.block_lt_of_cell? w ⟨g, k + 1, none⟩ c1
  simp only at hlt
  have c2 : ∀ o, (w.alloc o).cell? ⟨g, k + 1, none⟩ = some (.int .i64 x) := fun o => (World.cell?_of_block (a := ⟨g, k + 1, none⟩) (Below.heap_alloc w o g hlt)).trans c1
  go_enter Try.func80, Try.ntmps80
  go_wp2
  refine bodyPost_ret (results_cell_row rfl _ _ w.heap.size tSp #[.int .i64 x, .int .i64 m] (0, 0) _ rfl (Row.fresh w tSp _) Try.underlying67 rfl (by kernel_rfl)) rfl ⟨rfl, (Below.refl _ w).alloc (Nat.le_refl _) _⟩
theorem agree {w w' : World} {b j : Nat} {v : Value} (h : w.cell? ⟨b, j, none⟩ = some v) (hb : Below w.heap.size w w') : w'.cell? ⟨b, j, none⟩ = some v :=
  (World.cell?_of_block (a := ⟨b, j, none⟩) (hb.block b (World.block_lt_of_cell? w ⟨b, j, none⟩ h))).trans h
set_option maxRecDepth 100000 in
set_option maxHeartbeats 1000000 in
theorem rtake_any (g k : Nat) (x m : Nat) (A : Option Addr) (n c : Nat) (w : World) (t : TypeId) (cs : List Value) (hr : Row w g t cs) (h0 : cs[k]? = some (.slice A n c)) (h1 : cs[k + 1]? = some (.int .i64 x)) (hx : x + m ≤ c) (hn : x + m ≤ 1000000000) :
    Calls Try.prog 81 #[.pointer (some ⟨g, k, none⟩), .agg #[.int .i64 x, .int .i64 m]] w fun y w' => y = .returned (.slice (if c = x then A else A.map (·.add x)) m (c - x)) ∧ Row w' g t (cs.set (k + 1) (.int .i64 (x + m : Nat))) ∧ w.grownBy w' (some g) := by
  obtain ⟨y, hy⟩ : ∃ y, y = x + m := ⟨_, rfl⟩
  have hm : m = y - x := by omega
  rw [← hy] at hx hn ⊢
  have Hm := hide hm
  have hga : w.grownBy (w.alloc (.cells #[.int .i64 x, .int .i64 m] tSp)) (some g) := World.grownBy_alloc w _ _
  have hrow := Row.fresh w tSp #[.int .i64 x, .int .i64 m]
  have hr1 := hr.alloc (.cells #[.int .i64 x, .int .i64 m] tSp)
  have hlt := hr.lt
  obtain ⟨q, hq⟩ : ∃ q, q = w.heap.size := ⟨_, rfl⟩
  obtain ⟨w1, hw1⟩ : ∃ w1, w1 = w.alloc (.cells #[.int .i64 x, .int .i64 m] tSp) := ⟨_, rfl⟩
  have Hq := hide hq
  have Hw1 := hide hw1
  rw [← hw1] at hga hrow hr1
  rw [← hq] at hrow
  have hqg : q ≠ g := by omega
  have Hr1 := hide hr1
  have Hga := hide hga
  have Hrow := hide hrow
  have H0 := hide h0
  have H1 := hide h1
  have hwr : IntKind.i64.wrap ((x : Int) + (m : Int)) = (y : Int) := by rw [IntWalk.i64_in _ (by omega)]; omega
  obtain ⟨A', hA'⟩ : ∃ A', A' = (if c = x then A else A.map (·.add x)) := ⟨_, rfl⟩
  have hc := fun w => run_cut2 w A n c x y (by omega) hx
  rw [← hA'] at hc ⊢
  have d0 := (hr1.cell k).trans h0
  have d1 := (hr1.cell (k + 1)).trans h1
  have f1 := hr1.free (k + 1)
  have q0 := hrow.cell 0
  have q1 := hrow.cell 1
  simp only [List.getElem?_cons_zero, List.getElem?_cons_succ] at q0 q1
  clear hga hrow hr1 hr hq hw1 h0 h1 hy hm hA'
  go_enter Try.func81, Try.ntmps81
  go_wp2_with (rw [← Hw1.out, ← Hq.out])
  refine Rc.wp_region_ord (fun w' => w'.cell? ⟨g, k + 1, none⟩ = some (.int .i64 x) ∧ w'.cell? ⟨q, 1, none⟩ = some (.int .i64 m)) [(0, true), (1, true), (2, true), (3, true), (4, true), (5, true), (6, true), (7, true), (8, true), (9, false)] (by kernel_rfl) (by kernel_rfl) ?_
  simp only [Rg.pick, List.map_cons, List.map_nil, List.getD_cons_zero, List.getD_cons_succ]
  iterate 9 (refine Rc.ord_quiet (v := ?_) rfl (fun w' hS => ?_) ⟨d1, q1⟩ ?_; rotate_left; (obtain ⟨s1, s2⟩ := hS; go_simp; with_reducible rfl); simp only [Act.put, List.setIfInBounds_toArray, List.set_cons_succ, List.set_cons_zero])
  refine Rc.ord_loud rfl (fun K hK => ?_)
  go_simp
  refine hK _ _ (fun hf => absurd (show Rc.sink _ 9 = true from by kernel_rfl) (by rw [hf]; decide)) ?_
  clear hK K
  refine Rc.ord_nil ?_
  have hr2 : Row (w1.setCell ⟨g, k + 1, none⟩ (.int .i64 y)).drew g t (cs.set (k + 1) (.int .i64 y)) := (Hr1.out.put (k + 1) (.int .i64 y)).drew
  have hb2 := (Hrow.out.off hqg (i := k + 1) (.int .i64 y)).drew
  have hg2 := grown_drew (grown_put (i := k + 1) Hga.out (.int .i64 y))
  obtain ⟨w2, hw2⟩ : ∃ w2, w2 = (w1.setCell ⟨g, k + 1, none⟩ (.int .i64 y)).drew := ⟨_, rfl⟩
  have hk1 : k + 1 < cs.length := (List.getElem?_eq_some_iff.1 H1.out).1
  rw [← hw2] at hr2 hb2 hg2
  have e0 : w2.cell? ⟨g, k, none⟩ = some (.slice A n c) := (hr2.cell k).trans (by rw [List.getElem?_set, if_neg (by omega)]; exact H0.out)
  have e1 : w2.cell? ⟨g, k + 1, none⟩ = some (.int .i64 y) := (hr2.cell (k + 1)).trans (by rw [List.getElem?_set, if_pos rfl, if_pos hk1])
  have p0 := hb2.cell 0
  simp only [List.getElem?_cons_zero] at p0
  have Hr2 := hide hr2
  have Hg2 := hide hg2
  have Hw2 := hide hw2
  clear hr2 hb2 hg2 hw2 d0 d1 f1 q0 q1
  go_wp2_with (rw [← Hw2.out])
  go_quiet (fail)
  go_wp2
  go_ret
  exact ⟨by rw [Hm.out]; rfl, Hr2.out.drewN _, grown_drewN Hg2.out _⟩
/-- is the test of two lists what it should be, in whatever world behind -/
abbrev EqT (w : World) (p q : Ls) (A A' : Option Addr) (c c' : Nat) : Prop := ∀ w1, Below w.heap.size w w1 → Calls Try.prog 93 #[.slice A p.length c, .slice A' q.length c'] w1 fun y w' => y = .returned (.bool (decide (p = q))) ∧ Below w1.heap.size w1 w'
end Go.Proofs.Ytghnieddokhagaa.Al
namespace Go.Proofs.Ytghnieddokhagaa.Df
open Go Go.RowKit Kt Lw

theorem infoTx : (Try.prog.info? 9).map (fun i => (i.zero, i.size, i.bytes)) = some (some (.string ⟨#[]⟩), 1, 16) := by kernel_rfl
theorem wp_pushT {o : Oper} {a : Act} {K : Act → World → Prop} {Q : Exit → Act → World → Prop} {W : World} (s x : Operand)
    (ho : o.op = .call { callee := .builtin .append, args := #[s, x], argTypes := #[25, 25] })
    (B : Nat) (w0 : World) (v : Value) (l : Ls) (y : List UInt8) (cs : Array Value) (hs : a.eval s = v) (hx : a.eval x = .slice (some ⟨W.heap.size, 0, none⟩) 1 1) (hc : cs = #[.string ⟨y.toArray⟩])
    (hown : OwT W B tS v l) (hlen : l.length + 1 ≤ 1000000000) (hb : Below B w0 W) (hbase : B ≤ W.heap.size)
    (h : ∀ v' w', OwT w' B tS v' (l ++ [y]) → Below B w0 w' → W.grownBy w' v.ownBlock → (v'.ownBlock = v.ownBlock ∨ v'.ownBlock = some (W.heap.size + 1)) → K (a.put o.dst v') w') : o.wp Try.prog a (W.alloc (.cells cs tS)) K Q := by
  obtain ⟨i0, hi0, hz0, hz1, hz2⟩ := info_parts infoTx
  subst hc
  have hown' : (W.alloc (.cells #[.string ⟨y.toArray⟩] tS)).ownsRow B tS 1 v l.length (texts l) := World.ownsRow.alloc hown _
  have hnews : ∀ j u, (texts [y])[j]? = some u → (W.alloc (.cells #[.string ⟨y.toArray⟩] tS)).cell? ((⟨W.heap.size, 0, none⟩ : Addr).add j) = some u := fun j u hu => by
    rw [Addr.add_mid, (Row.fresh W tS #[.string ⟨y.toArray⟩]).cell, Nat.zero_add]
    exact hu
  obtain ⟨v', w', hr, h1, h2, _⟩ := run_append_own (P := Try.prog) (W.alloc (.cells #[.string ⟨y.toArray⟩] tS)) B 25 o.type tS i0 (.string ⟨#[]⟩) 1 16 Try.underlying25 hi0 hz0 hz1 hz2 rfl (by omega) v l.length (texts l) hown'
    ⟨W.heap.size, 0, none⟩ 1 1 (texts [y]) rfl hnews (texts_one [y]) (by unfold maxLen; omega) (by omega) (by simp; omega)
  have hg := grownBy_back _ h2
  have hbl : v'.ownBlock = v.ownBlock ∨ v'.ownBlock = some (W.heap.size + 1) := by
    rcases hown'.2 with ⟨rfl, h0⟩ | ⟨g, cap, cur, rfl, _, hgg, hnc, _, hcs, htake⟩
    · have hr2 := run_append_nil (P := Try.prog) (W.alloc (.cells #[.string ⟨y.toArray⟩] tS)) 25 o.type tS i0 (.string ⟨#[]⟩) Try.underlying25 hi0 hz0 ⟨W.heap.size, 0, none⟩ 1 1 (texts [y]) (by rw [hz1]; rfl) hnews (by omega) (by omega) (by rw [hz2]; omega)
      rw [hr] at hr2
      injection hr2 with e1 _
      right
      rw [e1]
      simp [Value.ownBlock]
    · by_cases hroom : l.length + 1 ≤ cap
      · have hr2 := run_append_room (P := Try.prog) (W.alloc (.cells #[.string ⟨y.toArray⟩] tS)) 25 o.type tS i0 Try.underlying25 hi0 g l.length cap cur hgg ⟨W.heap.size, 0, none⟩ 1 1 (texts [y]) (by rw [hz1]; rfl) hnews (texts_one [y]) hroom (by rw [hz1, hcs]; simp [texts]; omega)
        rw [hr] at hr2
        injection hr2 with e1 _
        left
        rw [e1]
        rfl
      · have hr2 := run_append_grow (P := Try.prog) (W.alloc (.cells #[.string ⟨y.toArray⟩] tS)) 25 o.type tS i0 (.string ⟨#[]⟩) Try.underlying25 hi0 hz0 ⟨g, 0, none⟩ l.length cap (texts l) (by rw [hz1, texts_len]; omega) (World.ownsRow.cells hown' rfl)
          ⟨W.heap.size, 0, none⟩ 1 1 (texts [y]) (by rw [hz1]; rfl) hnews (by omega) (by omega) (growslice_fits (by omega) (by rw [hz2]; omega))
        rw [hr] at hr2
        injection hr2 with e1 _
        right
        rw [e1]
        simp [Value.ownBlock]
  unfold Oper.wp execOp
  simp only [ho, resolve, invoke, builtin, Sem.run_bind, Sem.run_pure, Result.andThen_ok, List.map_toArray, List.map_cons, List.map_nil, hs, hx, hr]
  refine h v' w' ?_ (hb.grown hg hbase fun k hk => (World.ownsRow.lt hown k hk).1) hg hbl
  unfold OwT
  rw [List.length_append, texts_append]
  exact h1
theorem wpList_pushT {ops : Array Oper} {rest : List Oper} {o : Oper} {a : Act} {Q : Exit → Act → World → Prop} {W : World} (hgd : o.guard = none) (s x : Operand)
    (ho : o.op = .call { callee := .builtin .append, args := #[s, x], argTypes := #[25, 25] })
    (B : Nat) (w0 : World) (v : Value) (l : Ls) (y : List UInt8) (cs : Array Value) (hs : a.eval s = v) (hx : a.eval x = .slice (some ⟨W.heap.size, 0, none⟩) 1 1) (hc : cs = #[.string ⟨y.toArray⟩])
    (hown : OwT W B tS v l) (hlen : l.length + 1 ≤ 1000000000) (hb : Below B w0 W) (hbase : B ≤ W.heap.size)
    (h : ∀ v' w', OwT w' B tS v' (l ++ [y]) → Below B w0 w' → W.grownBy w' v.ownBlock → (v'.ownBlock = v.ownBlock ∨ v'.ownBlock = some (W.heap.size + 1)) → wpList Try.prog ops Q rest (a.put o.dst v') w') : wpList Try.prog ops Q (o :: rest) a (W.alloc (.cells cs tS)) :=
  wpList_plain hgd fun _ hK => wp_pushT s x ho B w0 v l y cs hs hx hc hown hlen hb hbase fun v' w' h1 h2 h3 h4 => hK _ _ (h v' w' h1 h2 h3 h4)
end Go.Proofs.Ytghnieddokhagaa.Df
