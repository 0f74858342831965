/-
  append of an edit; diff.add.
-/
import Derived.Test.YteehbpnbephojaaED
namespace Go.Proofs.Yteehbpnbephojaa.Df
open Go Go.RowKit Kt Lw

theorem infoText : (Try.prog.info? 9).map (fun i => (i.zero, i.size, i.bytes)) = some (some (.string ⟨#[]⟩), 1, 16) := by kernel_rfl
theorem infoEd : (Try.prog.info? 53).map (fun i => (i.zero, i.size, i.bytes)) = some (some (.agg #[.int .i64 0, .int .i64 0, .slice none 0 0]), 3, 40) := by kernel_rfl
theorem OwT.one {w : World} {B : Nat} {v : Value} {l : Ls} (h : OwT w B tS v l) : v.oneCell' = true := by
  rcases h.2 with ⟨rfl, _⟩ | ⟨g, cap, cur, rfl, _⟩ <;> rfl
theorem grown_then {a b c : World} {r : Option Nat} (h : a.grownBy b none) (k : b.grownBy c r) : a.grownBy c r :=
  ⟨k.os.trans h.os, k.tape.trans h.tape, k.output.trans h.output, Nat.le_trans h.size k.size, fun i hi hne => (k.block i (Nat.lt_of_lt_of_le hi h.size) hne).trans (h.block i hi (by simp))⟩
/-- append(l, one edit) onto a row of edits of the call's own -/
theorem wp_pushE {o : Oper} {a : Act} {K : Act → World → Prop} {Q : Exit → Act → World → Prop} {W : World} (s x : Operand)
    (ho : o.op = .call { callee := .builtin .append, args := #[s, x], argTypes := #[38, 38] })
    (B : Nat) (w0 : World) (v vi : Value) (L : List Ed) (e : Ed) (cs : Array Value) (hs : a.eval s = v) (hx : a.eval x = .slice (some ⟨W.heap.size, 0, none⟩) 1 1) (hc : cs = (edC e vi).toArray)
    (hown : OwE W B v L) (hvi : OwT W B tS vi e.ins) (hlen : L.length + 1 ≤ 1000000000) (hb : Below B w0 W) (hbase : B ≤ W.heap.size)
    (h : ∀ v' w', OwE w' B v' (L ++ [e]) → Below B w0 w' → W.grownBy w' v.ownBlock → K (a.put o.dst v') w') : o.wp Try.prog a (W.alloc (.cells cs tE)) K Q := by
  obtain ⟨i0, hi0, hz0, hz1, hz2⟩ := info_parts infoEd
  subst hc
  obtain ⟨V, hV, hr, hi⟩ := hown
  refine wp_append_own _ s x 38 ho B tE i0 (.agg #[.int .i64 0, .int .i64 0, .slice none 0 0]) 3 40 Try.underlying38 hi0 hz0 hz1 hz2 rfl (by omega) v L.length (V.flatMap pairC) hs (World.ownsRow.alloc hr _)
    ⟨W.heap.size, 0, none⟩ 1 1 (edC e vi) hx rfl (fun j u hu => ?_) ?_ (by unfold maxLen; omega) (by omega) (by simp; omega) (fun v' w' h1 h2 _ => ?_)
  · rw [Addr.add_mid, (Row.fresh W tE (edC e vi).toArray).cell]
    simpa using hu
  · intro u hu
    simp only [edC, List.mem_cons, List.not_mem_nil, or_false] at hu
    rcases hu with rfl | rfl | rfl
    · rfl
    · rfl
    · exact OwT.one hvi
  · have hg := grownBy_back _ h2
    exact h v' w' (OwE.append V hV hr hi hvi h1 hg) (hb.grown hg hbase fun k hk => (World.ownsRow.lt hr k hk).1) hg
theorem wpList_pushE {ops : Array Oper} {rest : List Oper} {o : Oper} {a : Act} {Q : Exit → Act → World → Prop} {W : World} (hgd : o.guard = none) (s x : Operand)
    (ho : o.op = .call { callee := .builtin .append, args := #[s, x], argTypes := #[38, 38] })
    (B : Nat) (w0 : World) (v vi : Value) (L : List Ed) (e : Ed) (cs : Array Value) (hs : a.eval s = v) (hx : a.eval x = .slice (some ⟨W.heap.size, 0, none⟩) 1 1) (hc : cs = (edC e vi).toArray)
    (hown : OwE W B v L) (hvi : OwT W B tS vi e.ins) (hlen : L.length + 1 ≤ 1000000000) (hb : Below B w0 W) (hbase : B ≤ W.heap.size)
    (h : ∀ v' w', OwE w' B v' (L ++ [e]) → Below B w0 w' → W.grownBy w' v.ownBlock → wpList Try.prog ops Q rest (a.put o.dst v') w') : wpList Try.prog ops Q (o :: rest) a (W.alloc (.cells cs tE)) :=
  wpList_plain hgd fun _ hK => wp_pushE s x ho B w0 v vi L e cs hs hx hc hown hvi hlen hb hbase fun v' w' h1 h2 h3 => hK _ _ (h v' w' h1 h2 h3)

/-- an edit, if it has a line that goes, or comes -/
def emitI (pos del : Int) (ins : Ls) : List Ed := if del = 0 ∧ ins = [] then [] else [⟨pos, del, ins⟩]
theorem emitI_nat (pos del : Nat) (ins : Ls) : emitI pos del ins = emit pos del ins := by
  unfold emitI emit
  by_cases h : del = 0 ∧ ins = []
  · rw [if_pos h, if_pos ⟨by omega, h.2⟩]
  · rw [if_neg h, if_neg (fun k => h ⟨by omega, k.2⟩)]

set_option maxHeartbeats 1000000 in
set_option maxRecDepth 100000 in
theorem add_any (B : Nat) (v : Value) (L : List Ed) (pos del : Int) (ins : Ls) (A : Option Addr) (c : Nat) (P : Nat → Prop) (w : World) (hown : OwE w B v L) (hs : Vs w P A c (texts ins))
    (hB : B ≤ w.heap.size) (hl : L.length + 1 ≤ 1000000000) (hn : ins.length ≤ 1000000000) :
    Calls Try.prog 29 #[v, .int .i64 pos, .int .i64 del, .slice A ins.length c] w fun y w' => ∃ v', y = .returned v' ∧ OwE w' B v' (L ++ emitI pos del ins) ∧ Below B w w' ∧ w.grownBy w' v.ownBlock := by
  have hB0 : Below B w w := Below.refl _ _
  by_cases h : del = 0 ∧ ins = []
  · obtain ⟨rfl, rfl⟩ := h
    have Hown := hide hown
    clear hown
    go_enter Try.func29, Try.ntmps29
    go_wp2
    go_ret
    exact ⟨_, rfl, by rw [show emitI pos 0 [] = [] from rfl, List.append_nil]; exact Hown.out, hB0, World.grownBy.refl _ _⟩
  · have He := hide (show emitI pos del ins = [⟨pos, del, ins⟩] from if_neg h)
    have hcase : ((del == 0) = false) ∨ ((del == 0) = true ∧ ((ins.length : Int) == 0) = false) := by
      by_cases hd : del = 0
      · refine .inr ⟨by rw [hd]; rfl, ?_⟩
        rw [beq_eq_false_iff_ne]
        have := List.length_pos_iff.2 fun k => h ⟨hd, k⟩
        omega
      · exact .inl (by rw [beq_eq_false_iff_ne]; exact hd)
    have Hown := hide hown
    have Hs := hide hs
    have HB := hide hB
    have Hn := hide hn
    have Hl := hide hl
    clear h hown hs hB hl hn
    rcases hcase with d1 | ⟨d1, d2⟩
    · go_enter Try.func29, Try.ntmps29
      go_wp2_with (first | (refine wpList_catT rfl _ (.tmp 20) 22 rfl Try.underlying22 infoText B w (.slice none 0 0) [] ins P A c rfl rfl (OwT.nil _ _ _) Hs.out (by have := Hn.out; simp; omega) hB0 HB.out ?_; intro vi w1 hvi hb1 hg1; rw [List.nil_append] at hvi; have hown1 : OwE w1 B v L := Hown.out.move (B' := w.heap.size) ⟨hb1.os, hb1.tape, hb1.output, hg1.size, fun k hk => hg1.block k hk (by simp [Value.ownBlock])⟩ (Nat.le_refl _); obtain ⟨Ai, ci, rfl, _⟩ := OwT.vs hvi; have Hvi := hide hvi; have Hown1 := hide hown1; have Hb1 := hide hb1; have Hg1 := hide hg1; clear hvi hown1 hb1 hg1) | (refine wpList_pushE rfl (.tmp 17) (.tmp 23) rfl B w _ _ L ⟨pos, del, ins⟩ _ rfl rfl rfl Hown1.out Hvi.out Hl.out Hb1.out (Nat.le_trans HB.out Hb1.out.size) ?_; intro v' w2 hown2 hb2 hg2; have Hg2 := hide hg2; have Hown2 := hide hown2; have Hb2 := hide hb2; clear hown2 hb2 hg2))
      go_ret
      exact ⟨_, rfl, by rw [He.out]; exact Hown2.out, Hb2.out, grown_then Hg1.out Hg2.out⟩
    · go_enter Try.func29, Try.ntmps29
      go_wp2_with (first | (refine wpList_catT rfl _ (.tmp 20) 22 rfl Try.underlying22 infoText B w (.slice none 0 0) [] ins P A c rfl rfl (OwT.nil _ _ _) Hs.out (by have := Hn.out; simp; omega) hB0 HB.out ?_; intro vi w1 hvi hb1 hg1; rw [List.nil_append] at hvi; have hown1 : OwE w1 B v L := Hown.out.move (B' := w.heap.size) ⟨hb1.os, hb1.tape, hb1.output, hg1.size, fun k hk => hg1.block k hk (by simp [Value.ownBlock])⟩ (Nat.le_refl _); obtain ⟨Ai, ci, rfl, _⟩ := OwT.vs hvi; have Hvi := hide hvi; have Hown1 := hide hown1; have Hb1 := hide hb1; have Hg1 := hide hg1; clear hvi hown1 hb1 hg1) | (refine wpList_pushE rfl (.tmp 17) (.tmp 23) rfl B w _ _ L ⟨pos, del, ins⟩ _ rfl rfl rfl Hown1.out Hvi.out Hl.out Hb1.out (Nat.le_trans HB.out Hb1.out.size) ?_; intro v' w2 hown2 hb2 hg2; have Hg2 := hide hg2; have Hown2 := hide hown2; have Hb2 := hide hb2; clear hown2 hb2 hg2))
      go_ret
      exact ⟨_, rfl, by rw [He.out]; exact Hown2.out, Hb2.out, grown_then Hg1.out Hg2.out⟩
end Go.Proofs.Yteehbpnbephojaa.Df
