/-
  Texts: what of a slice is read in a world behind; == and + of texts; the reference's Texts.
-/
import Derived.Test.YtofccahgmkifjaaProg
import Derived.Test.YtofccahgmkifjaaQ3
import Derived.Test.YtofccahgmkifjaaQ2
import Derived.IntWalk
import Derived.Lib.Strings
import Derived.Test.YtofccahgmkifjaaQ1
namespace Go.Proofs.Ytofccahgmkifjaa.Lw
open Go Go.RowKit Kt
theorem Vs.bound {w : World} {P : Nat → Prop} {A : Option Addr} {c : Nat} {vs : List Value} (h : Vs w P A c vs) : Vs w (fun b => b < w.heap.size) A c vs :=
  ⟨h.1, fun hn => by
    obtain ⟨b, o, rfl, hp, hc⟩ := h.2 hn
    obtain ⟨v, hv⟩ : ∃ v, vs[0]? = some v := ⟨vs[0], List.getElem?_eq_getElem hn⟩
    exact ⟨b, o, rfl, World.block_lt_of_cell? w ⟨b, o + 0, none⟩ (hc 0 v hv), hc⟩⟩
/-- the cell of text k, in a world behind -/
theorem Vs.text {w w' : World} {A : Option Addr} {c : Nat} {l : List (List UInt8)} (h : Vs w (fun b => b < w.heap.size) A c (texts l)) (hb : Below w.heap.size w w') {k : Nat} (hk : k < l.length) :
    ∃ b o, A = some ⟨b, o, none⟩ ∧ w'.cell? ⟨b, o + k, none⟩ = some (.string ⟨(l.getD k []).toArray⟩) := by
  obtain ⟨b, o, rfl, hp, hc⟩ := h.2 (by rw [texts_len]; omega)
  exact ⟨b, o, rfl, (World.cell?_of_block (a := ⟨b, o + k, none⟩) (hb.block b hp)).trans (hc k _ (texts_at l k hk))⟩
end Go.Proofs.Ytofccahgmkifjaa.Lw
namespace Go.Proofs.Ytofccahgmkifjaa.Li
open Go Go.RowKit Kt Lw

theorem texts_same (l r : List (List UInt8)) (hl : l.length = r.length) (h : ∀ j, j < l.length → l.getD j [] = r.getD j []) : l = r := by
  apply List.ext_getElem hl
  intro i h1 h2
  have := h i h1
  simpa [List.getElem?_eq_getElem h1, List.getElem?_eq_getElem h2] using this
theorem eq_txt (x y : List UInt8) : ((ByteArray.mk x.toArray).toList == (ByteArray.mk y.toArray).toList) = decide (x = y) := by
  rw [Lib.toList_data, Lib.toList_data, Bool.eq_iff_iff, beq_iff_eq, decide_eq_true_iff]
set_option maxHeartbeats 1000000 in
set_option maxRecDepth 100000 in
theorem texts_any (l r : List (List UInt8)) (A A' : Option Addr) (c c' : Nat) (P P' : Nat → Prop) (w : World) (hs : Vs w P A c (texts l)) (hs' : Vs w P' A' c' (texts r)) (hl : l.length ≤ 9223372036854775807) :
    Calls Try.prog 11 #[.slice A l.length c, .slice A' r.length c'] w fun y w' => y = .returned (.bool (decide (l = r))) ∧ Below w.heap.size w w' := by
  by_cases hlen : l.length = r.length
  · have Hs := hide hs.bound
    have Hs' := hide hs'.bound
    clear hs hs'
    have hb0 : ((l.length : Int) != (r.length : Int)) = false := by rw [bne_eq_false_iff_eq]; omega
    have Hlen := hide hlen
    obtain ⟨N, hN⟩ : ∃ N, N = l.length := ⟨_, rfl⟩
    obtain ⟨N', hN'⟩ : ∃ N', N' = r.length := ⟨_, rfl⟩
    rw [← hN, ← hN'] at hb0 ⊢
    have HN := hide hN
    have HN' := hide hN'
    have hNl : N ≤ 9223372036854775807 := by omega
    have hNN : N = N' := by omega
    have HNN := hide hNN
    clear hN hN' hl hlen hNN
    go_enter Try.func11, Try.ntmps11
    go_wp2
    go_loopw [5] (fun i wr => ∃ k : Nat, k ≤ N ∧ i = .int .i64 k ∧ (∀ j, j < k → l.getD j [] = r.getD j []) ∧ Below w.heap.size w wr) (fun i _ => N - (intOf i).toNat)
    case atStart => exact ⟨0, Nat.zero_le _, rfl, fun j h => absurd h (Nat.not_lt_zero _), Below.refl _ _⟩
    case round =>
      obtain ⟨k, hk, rfl, hall, hb⟩ := hrel
      have Hall := hide hall
      have Hb := hide hb
      clear hall hb
      by_cases hlt : k < N
      · obtain ⟨b, o, rfl, ck⟩ := Hs.out.text Hb.out (k := k) (by have := HN.out; omega)
        obtain ⟨b', o', rfl, ck'⟩ := Hs'.out.text Hb.out (k := k) (by have := HN'.out; have := HNN.out; omega)
        have hlt' : k < N' := by have := HNN.out; omega
        by_cases hx : l.getD k [] = r.getD k []
        · have Hx := hide hx
          rw [hx] at ck
          clear hx
          generalize (r.getD k []).toArray = x at *
          go_wp2
          go_quiet (fail)
          go_wp2
          refine ⟨⟨k + 1, by omega, by go_num, fun j hj => ?_, below_drewN Hb.out _⟩, by simp [intOf]; omega⟩
          rcases Nat.lt_or_ge j k with hj' | hj'
          · exact Hall.out j hj'
          · obtain rfl : j = k := by omega
            exact Hx.out
        · have hxn := eq_txt (l.getD k []) (r.getD k [])
          rw [decide_eq_false hx] at hxn
          have Hx := hide hx
          clear hx
          generalize (r.getD k []).toArray = x at *
          generalize (l.getD k []).toArray = y at *
          go_wp2
          go_quiet (fail)
          go_wp2
          go_ret
          refine ⟨?_, below_drewN Hb.out _⟩
          have hd : decide (l = r) = false := decide_eq_false fun h => Hx.out (by rw [h])
          rw [hd]; rfl
      · obtain rfl : k = N := by omega
        go_wp2
        go_ret
        refine ⟨?_, Hb.out⟩
        have hd : decide (l = r) = true := decide_eq_true (texts_same l r Hlen.out fun j hj => Hall.out j (by have := HN.out; omega))
        rw [hd]; rfl
  · have hb0 : ((l.length : Int) != (r.length : Int)) = true := by rw [bne_iff_ne]; omega
    have Hd := hide (show decide (l = r) = false from decide_eq_false fun h => hlen (by rw [h]))
    clear hs hs' hlen
    go_enter Try.func11, Try.ntmps11
    go_wp2
    go_ret
    exact ⟨by rw [Hd.out]; rfl, Below.refl _ _⟩

theorem app_txt (x y : List UInt8) : ByteArray.mk x.toArray ++ ByteArray.mk y.toArray = ⟨(x ++ y).toArray⟩ := by
  apply ByteArray.ext
  simp
end Go.Proofs.Ytofccahgmkifjaa.Li
namespace Go.Proofs.Ytofccahgmkifjaa.Df
open Go Go.RowKit Kt Lw

abbrev tS : TypeId := 9
abbrev tE : TypeId := 68
/-- an edit's cells -/
def edC (e : Ed) (vi : Value) : List Value := [.int .i64 e.pos, .int .i64 e.del, vi]
theorem flat_at {α : Type} (f : α → List Value) (n : Nat) (hf : ∀ a, (f a).length = n) : ∀ (l : List α) (j k : Nat) (a : α), l[j]? = some a → k < n → (l.flatMap f)[n * j + k]? = (f a)[k]?
  | [], j, k, a, h, _ => by simp at h
  | b :: l, 0, k, a, h, hk => by
    simp at h
    subst h
    rw [List.flatMap_cons, Nat.mul_zero, Nat.zero_add, List.getElem?_append_left (by rw [hf]; exact hk)]
  | b :: l, j + 1, k, a, h, hk => by
    rw [List.flatMap_cons, List.getElem?_append_right (by rw [hf, Nat.mul_succ]; omega), hf]
    rw [show n * (j + 1) + k - n = n * j + k from by rw [Nat.mul_succ]; omega]
    exact flat_at f n hf l j k a (by simpa using h) hk
theorem flat_len {α : Type} (f : α → List Value) (n : Nat) (hf : ∀ a, (f a).length = n) (l : List α) : (l.flatMap f).length = l.length * n := by
  induction l with
  | nil => simp
  | cons a l ih => rw [List.flatMap_cons, List.length_append, hf, ih, List.length_cons, Nat.succ_mul]; omega
def pairC (p : Ed × Value) : List Value := edC p.1 p.2
theorem pairC_len (p : Ed × Value) : (pairC p).length = 3 := rfl
/-- edits in a row of the call's own, with lines in rows of its own -/
def OwE (w : World) (B : Nat) (v : Value) (L : List Ed) : Prop :=
  ∃ V : List (Ed × Value), V.map (·.1) = L ∧ w.ownsRow B tE 3 v L.length (V.flatMap pairC) ∧ ∀ p ∈ V, OwT w B tS p.2 p.1.ins
/-- '.slice A n c' reads as these edits -/
def Es (w : World) (A : Option Addr) (c : Nat) (L : List Ed) : Prop :=
  L.length ≤ c ∧ (0 < L.length → ∃ b o, A = some ⟨b, o, none⟩ ∧ b < w.heap.size ∧ ∀ j e, L[j]? = some e →
    ∃ A' c', w.rangeAt b (o + 3 * j) (edC e (.slice A' e.ins.length c')) ∧ Vs w (fun b => b < w.heap.size) A' c' (texts e.ins))
theorem vs_keep {w w' : World} {A : Option Addr} {c : Nat} {vs : List Value} (h : Vs w (fun b => b < w.heap.size) A c vs) (hb : Below w.heap.size w w') : Vs w' (fun b => b < w'.heap.size) A c vs :=
  Lw.Vs.bound (Lw.Vs.below h hb)
theorem Es.keep {w w' : World} {A : Option Addr} {c : Nat} {L : List Ed} (h : Es w A c L) (hb : Below w.heap.size w w') : Es w' A c L :=
  ⟨h.1, fun hn => by
    obtain ⟨b, o, rfl, hlt, he⟩ := h.2 hn
    refine ⟨b, o, rfl, Nat.lt_of_lt_of_le hlt hb.size, fun j e hj => ?_⟩
    obtain ⟨A', c', hr, hv⟩ := he j e hj
    exact ⟨A', c', fun i v hi => (World.cell?_of_block (a := ⟨b, o + 3 * j + i, none⟩) (hb.block b hlt)).trans (hr i v hi), vs_keep hv hb⟩⟩
theorem Es.nil (w : World) (A : Option Addr) (c : Nat) : Es w A c [] := ⟨Nat.zero_le _, fun h => by simp at h⟩
theorem OwE.nil (w : World) (B : Nat) : OwE w B (.slice none 0 0) [] := ⟨[], rfl, World.ownsRow_nil _ _ _ _, fun p h => by cases h⟩
theorem OwE.es {w : World} {B : Nat} {v : Value} {L : List Ed} (h : OwE w B v L) : ∃ A c, v = .slice A L.length c ∧ Es w A c L := by
  obtain ⟨V, rfl, hr, hi⟩ := h
  rcases hr.2 with ⟨rfl, h0⟩ | ⟨g, cap, cur, rfl, hB, hg, hnc, hcm, hs, ht⟩
  · have e : V.map (·.1) = [] := List.eq_nil_of_length_eq_zero h0
    rw [e]
    exact ⟨none, 0, rfl, Es.nil _ _ _⟩
  · refine ⟨_, cap, rfl, hnc, fun _ => ⟨g, 0, rfl, (Array.getElem?_eq_some_iff.1 hg).1, fun j e hj => ?_⟩⟩
    rw [List.getElem?_map] at hj
    cases hp : V[j]? with
    | none => rw [hp] at hj; cases hj
    | some p =>
      rw [hp] at hj
      simp at hj
      subst hj
      have hjl : j < V.length := (List.getElem?_eq_some_iff.1 hp).1
      obtain ⟨A', c', hv, hvs⟩ := (hi p (List.mem_of_getElem? hp)).vs
      refine ⟨A', c', fun k u hk => ?_, Lw.Vs.bound hvs⟩
      have hk3 : k < 3 := (List.getElem?_eq_some_iff.1 hk).1
      have := World.ownsRow.cellAt (cap := cap) hr (3 * j + k) (by rw [List.length_map]; omega)
      rw [Nat.zero_add, this, flat_at pairC 3 pairC_len V j k p hp hk3]
      unfold pairC
      rw [hv]
      exact hk
theorem OwE.move {w w' : World} {B B' : Nat} {v : Value} {L : List Ed} (h : OwE w B v L) (hb : Below B' w w') (hv : w.heap.size ≤ B') : OwE w' B v L := by
  obtain ⟨V, hV, hr, hi⟩ := h
  refine ⟨V, hV, ⟨hr.1, ?_⟩, fun p hp => (hi p hp).below hb fun g hg => Nat.lt_of_lt_of_le (World.ownsRow.lt (hi p hp) g hg).2 hv⟩
  rcases hr.2 with ⟨h1, h2⟩ | ⟨g, cap, cur, hv', h1, h2, h3⟩
  · exact .inl ⟨h1, h2⟩
  · exact .inr ⟨g, cap, cur, hv', h1, (hb.block g (Nat.lt_of_lt_of_le (Array.getElem?_eq_some_iff.1 h2).1 hv)).trans h2, h3⟩
theorem OwE.keep {w w' : World} {B : Nat} {v : Value} {L : List Ed} (h : OwE w B v L) (hb : Below w.heap.size w w') : OwE w' B v L := h.move hb (Nat.le_refl _)
theorem OwE.base {w : World} {B B' : Nat} {v : Value} {L : List Ed} (h : OwE w B v L) (hb : B' ≤ B) : OwE w B' v L := by
  obtain ⟨V, hV, hr, hi⟩ := h
  have key : ∀ {e : TypeId} {size : Nat} {v : Value} {n : Nat} {xs : List Value}, w.ownsRow B e size v n xs → w.ownsRow B' e size v n xs := fun h =>
    ⟨h.1, h.2.imp id fun ⟨g, cap, cur, hv', h1, h2⟩ => ⟨g, cap, cur, hv', Nat.le_trans hb h1, h2⟩⟩
  exact ⟨V, hV, key hr, fun p hp => key (hi p hp)⟩
theorem OwE.put_box {w : World} {B : Nat} {v : Value} {L : List Ed} (h : OwE w B v L) (o : Obj) : OwE (w.alloc o) B v L := h.keep ((Below.refl _ w).alloc (Nat.le_refl _) o)
theorem OwE.drewN {w : World} {B : Nat} {v : Value} {L : List Ed} (h : OwE w B v L) (n : Nat) : OwE (w.drewN n) B v L := h
theorem OwE.drew {w : World} {B : Nat} {v : Value} {L : List Ed} (h : OwE w B v L) : OwE w.drew B v L := h
/-- append of one edit -/
theorem OwE.append {w w' : World} {B : Nat} {v v' : Value} {L : List Ed} {e : Ed} {vi : Value} (V : List (Ed × Value)) (hV : V.map (·.1) = L) (hr : w.ownsRow B tE 3 v L.length (V.flatMap pairC))
    (hi : ∀ p ∈ V, OwT w B tS p.2 p.1.ins) (hvi : OwT w B tS vi e.ins) (h' : w'.ownsRow B tE 3 v' (L.length + 1) (V.flatMap pairC ++ edC e vi)) (hg : w.grownBy w' v.ownBlock) : OwE w' B v' (L ++ [e]) := by
  have key : ∀ (u : Value) (l : Ls), OwT w B tS u l → OwT w' B tS u l := by
    intro u l hu
    refine World.ownsRow.kept hu hg ?_
    rcases hu.2 with ⟨rfl, _⟩ | ⟨g, cap, cur, rfl, _, hgg, _⟩
    · exact .inl rfl
    · right
      intro he
      rcases hr.2 with ⟨rfl, _⟩ | ⟨g', cap', cur', rfl, _, hgg', _⟩
      · cases he
      · simp only [Value.ownBlock, Option.some.injEq] at he
        subst he
        rw [hgg] at hgg'
        simp [tS, tE] at hgg'
  refine ⟨V ++ [(e, vi)], by simp [hV], ?_, fun p hp => ?_⟩
  · rw [List.flatMap_append, List.length_append]
    exact h'
  · rcases List.mem_append.1 hp with hp | hp
    · exact key _ _ (hi p hp)
    · obtain rfl : p = (e, vi) := by simpa using hp
      exact key _ _ hvi
end Go.Proofs.Ytofccahgmkifjaa.Df
namespace Go.Proofs.Ytofccahgmkifjaa.Df
open Go Go.RowKit Kt Lw

theorem size_pos : ∀ L : List Ed, 0 ≤ size L
  | [] => Int.le_refl _
  | e :: l => by rw [size]; have := size_pos l; omega
theorem size_take (L : List Ed) (k : Nat) : size (L.take k) ≤ size L := by
  have h := size_append (L.take k) (L.drop k)
  rw [List.take_append_drop] at h
  have := size_pos (L.drop k)
  omega
theorem size_snoc (L : List Ed) (k : Nat) (e : Ed) (h : L[k]? = some e) : size (L.take (k + 1)) = size (L.take k) + (max 0 e.del + e.ins.length) := by
  rw [List.take_add_one, h, size_append]
  simp [size]
/-- the edit number k, in a world behind -/
theorem Es.at {w w' : World} {A : Option Addr} {c : Nat} {L : List Ed} (h : Es w A c L) (hb : Below w.heap.size w w') {k : Nat} (hk : k < L.length) :
    ∃ b o e A' c', A = some ⟨b, o, none⟩ ∧ L[k]? = some e ∧ (w'.cell? ⟨b, o + k * 3, none⟩ = some (.int .i64 e.pos) ∧ w'.cell? ⟨b, o + k * 3 + 1, none⟩ = some (.int .i64 e.del) ∧ w'.cell? ⟨b, o + k * 3 + 2, none⟩ = some (.slice A' e.ins.length c')) ∧ Vs w (fun b => b < w.heap.size) A' c' (texts e.ins) := by
  obtain ⟨b, o, rfl, hlt, he⟩ := h.2 (by omega)
  obtain ⟨A', c', h1, h2⟩ := he k _ (List.getElem?_eq_getElem hk)
  rw [Nat.mul_comm] at h1
  have h3 : ∀ i v, (edC L[k] (.slice A' (L[k]).ins.length c'))[i]? = some v → w'.cell? ⟨b, o + k * 3 + i, none⟩ = some v := fun i v hi => (World.cell?_of_block (a := ⟨b, o + k * 3 + i, none⟩) (hb.block b hlt)).trans (h1 i v hi)
  exact ⟨b, o, _, A', c', rfl, List.getElem?_eq_getElem hk, ⟨h3 0 _ rfl, h3 1 _ rfl, h3 2 _ rfl⟩, h2⟩
theorem box_kept {w w2 : World} {B : Nat} {v : Value} {l : Ls} {cs : Array Value} {t : TypeId} (hown : OwT w B tS v l) (hg : (w.alloc (.cells cs t)).grownBy w2 v.ownBlock) : Row w2 w.heap.size t cs.toList :=
  (Row.fresh w t cs).grown hg (fun h => by have := (World.ownsRow.lt hown _ h.symm).2; omega)

end Go.Proofs.Ytofccahgmkifjaa.Df
namespace Go.Proofs.Ytofccahgmkifjaa.Df
open Go Go.RowKit Kt Lw

theorem infoText : (Try.prog.info? 9).map (fun i => (i.zero, i.size, i.bytes)) = some (some (.string ⟨#[]⟩), 1, 16) := by kernel_rfl
theorem infoEd : (Try.prog.info? 68).map (fun i => (i.zero, i.size, i.bytes)) = some (some (.agg #[.int .i64 0, .int .i64 0, .slice none 0 0]), 3, 40) := by kernel_rfl
theorem OwT.one {w : World} {B : Nat} {v : Value} {l : Ls} (h : OwT w B tS v l) : v.oneCell' = true := by
  rcases h.2 with ⟨rfl, _⟩ | ⟨g, cap, cur, rfl, _⟩ <;> rfl
theorem grown_then {a b c : World} {r : Option Nat} (h : a.grownBy b none) (k : b.grownBy c r) : a.grownBy c r :=
  ⟨k.os.trans h.os, k.tape.trans h.tape, k.output.trans h.output, Nat.le_trans h.size k.size, fun i hi hne => (k.block i (Nat.lt_of_lt_of_le hi h.size) hne).trans (h.block i hi (by simp))⟩
/-- append(l, one edit) onto a row of edits of the call's own -/
theorem wp_pushE {o : Oper} {a : Act} {K : Act → World → Prop} {Q : Exit → Act → World → Prop} {W : World} (s x : Operand)
    (ho : o.op = .call { callee := .builtin .append, args := #[s, x], argTypes := #[50, 50] })
    (B : Nat) (w0 : World) (v vi : Value) (L : List Ed) (e : Ed) (cs : Array Value) (hs : a.eval s = v) (hx : a.eval x = .slice (some ⟨W.heap.size, 0, none⟩) 1 1) (hc : cs = (edC e vi).toArray)
    (hown : OwE W B v L) (hvi : OwT W B tS vi e.ins) (hlen : L.length + 1 ≤ 1000000000) (hb : Below B w0 W) (hbase : B ≤ W.heap.size)
    (h : ∀ v' w', OwE w' B v' (L ++ [e]) → Below B w0 w' → W.grownBy w' v.ownBlock → K (a.put o.dst v') w') : o.wp Try.prog a (W.alloc (.cells cs tE)) K Q := by
  obtain ⟨i0, hi0, hz0, hz1, hz2⟩ := info_parts infoEd
  subst hc
  obtain ⟨V, hV, hr, hi⟩ := hown
  refine wp_append_own _ s x 50 ho B tE i0 (.agg #[.int .i64 0, .int .i64 0, .slice none 0 0]) 3 40 Try.underlying50 hi0 hz0 hz1 hz2 rfl (by omega) v L.length (V.flatMap pairC) hs (World.ownsRow.alloc hr _)
    ⟨W.heap.size, 0, none⟩ 1 1 (edC e vi) hx rfl (fun j u hu => ?_) ?_ (by unfold maxLen; omega) (by omega) (by simp; omega) (fun v' w' h1 h2 _ => ?_)
  · rw [Addr.add_mid, (Row.fresh W tE (edC e vi).toArray).cell]
    simpa using hu
  · intro u hu
    simp only [edC, List.mem_cons, List.not_mem_nil, or_false] at hu
    rcases hu with rfl | rfl | rfl
    · rfl
    · rfl
    · exact OwT.one hvi
  · have hg := grownBy_back _ h2
    exact h v' w' (OwE.append V hV hr hi hvi h1 hg) (hb.grown hg hbase fun k hk => (World.ownsRow.lt hr k hk).1) hg
theorem wpList_pushE {ops : Array Oper} {rest : List Oper} {o : Oper} {a : Act} {Q : Exit → Act → World → Prop} {W : World} (hgd : o.guard = none) (s x : Operand)
    (ho : o.op = .call { callee := .builtin .append, args := #[s, x], argTypes := #[50, 50] })
    (B : Nat) (w0 : World) (v vi : Value) (L : List Ed) (e : Ed) (cs : Array Value) (hs : a.eval s = v) (hx : a.eval x = .slice (some ⟨W.heap.size, 0, none⟩) 1 1) (hc : cs = (edC e vi).toArray)
    (hown : OwE W B v L) (hvi : OwT W B tS vi e.ins) (hlen : L.length + 1 ≤ 1000000000) (hb : Below B w0 W) (hbase : B ≤ W.heap.size)
    (h : ∀ v' w', OwE w' B v' (L ++ [e]) → Below B w0 w' → W.grownBy w' v.ownBlock → wpList Try.prog ops Q rest (a.put o.dst v') w') : wpList Try.prog ops Q (o :: rest) a (W.alloc (.cells cs tE)) :=
  wpList_plain hgd fun _ hK => wp_pushE s x ho B w0 v vi L e cs hs hx hc hown hvi hlen hb hbase fun v' w' h1 h2 h3 => hK _ _ (h v' w' h1 h2 h3)

/-- an edit, if it has a line that goes, or comes -/
def emitI (pos del : Int) (ins : Ls) : List Ed := if del = 0 ∧ ins = [] then [] else [⟨pos, del, ins⟩]
theorem emitI_nat (pos del : Nat) (ins : Ls) : emitI pos del ins = emit pos del ins := by
  unfold emitI emit
  by_cases h : del = 0 ∧ ins = []
  · rw [if_pos h, if_pos ⟨by omega, h.2⟩]
  · rw [if_neg h, if_neg (fun k => h ⟨by omega, k.2⟩)]

set_option maxHeartbeats 1000000 in
set_option maxRecDepth 100000 in
theorem add_any (B : Nat) (v : Value) (L : List Ed) (pos del : Int) (ins : Ls) (A : Option Addr) (c : Nat) (P : Nat → Prop) (w : World) (hown : OwE w B v L) (hs : Vs w P A c (texts ins))
    (hB : B ≤ w.heap.size) (hl : L.length + 1 ≤ 1000000000) (hn : ins.length ≤ 1000000000) :
    Calls Try.prog 45 #[v, .int .i64 pos, .int .i64 del, .slice A ins.length c] w fun y w' => ∃ v', y = .returned v' ∧ OwE w' B v' (L ++ emitI pos del ins) ∧ Below B w w' ∧ w.grownBy w' v.ownBlock := by
  have hB0 : Below B w w := Below.refl _ _
  by_cases h : del = 0 ∧ ins = []
  · obtain ⟨rfl, rfl⟩ := h
    have Hown := hide hown
    clear hown
    go_enter Try.func45, Try.ntmps45
    go_wp2
    go_ret
    exact ⟨_, rfl, by rw [show emitI pos 0 [] = [] from rfl, List.append_nil]; exact Hown.out, hB0, World.grownBy.refl _ _⟩
  · have He := hide (show emitI pos del ins = [⟨pos, del, ins⟩] from if_neg h)
    have hcase : ((del == 0) = false) ∨ ((del == 0) = true ∧ ((ins.length : Int) == 0) = false) := by
      by_cases hd : del = 0
      · refine .inr ⟨by rw [hd]; rfl, ?_⟩
        rw [beq_eq_false_iff_ne]
        have := List.length_pos_iff.2 fun k => h ⟨hd, k⟩
        omega
      · exact .inl (by rw [beq_eq_false_iff_ne]; exact hd)
    have Hown := hide hown
    have Hs := hide hs
    have HB := hide hB
    have Hn := hide hn
    have Hl := hide hl
    clear h hown hs hB hl hn
    rcases hcase with d1 | ⟨d1, d2⟩
    · go_enter Try.func45, Try.ntmps45
      go_wp2_with (first | (refine wpList_catT rfl _ (.tmp 20) 22 rfl Try.underlying22 infoText B w (.slice none 0 0) [] ins P A c rfl rfl (OwT.nil _ _ _) Hs.out (by have := Hn.out; simp; omega) hB0 HB.out ?_; intro vi w1 hvi hb1 hg1; rw [List.nil_append] at hvi; have hown1 : OwE w1 B v L := Hown.out.move (B' := w.heap.size) ⟨hb1.os, hb1.tape, hb1.output, hg1.size, fun k hk => hg1.block k hk (by simp [Value.ownBlock])⟩ (Nat.le_refl _); obtain ⟨Ai, ci, rfl, _⟩ := OwT.vs hvi; have Hvi := hide hvi; have Hown1 := hide hown1; have Hb1 := hide hb1; have Hg1 := hide hg1; clear hvi hown1 hb1 hg1) | (refine wpList_pushE rfl (.tmp 17) (.tmp 23) rfl B w _ _ L ⟨pos, del, ins⟩ _ rfl rfl rfl Hown1.out Hvi.out Hl.out Hb1.out (Nat.le_trans HB.out Hb1.out.size) ?_; intro v' w2 hown2 hb2 hg2; have Hg2 := hide hg2; have Hown2 := hide hown2; have Hb2 := hide hb2; clear hown2 hb2 hg2))
      go_ret
      exact ⟨_, rfl, by rw [He.out]; exact Hown2.out, Hb2.out, grown_then Hg1.out Hg2.out⟩
    · go_enter Try.func45, Try.ntmps45
      go_wp2_with (first | (refine wpList_catT rfl _ (.tmp 20) 22 rfl Try.underlying22 infoText B w (.slice none 0 0) [] ins P A c rfl rfl (OwT.nil _ _ _) Hs.out (by have := Hn.out; simp; omega) hB0 HB.out ?_; intro vi w1 hvi hb1 hg1; rw [List.nil_append] at hvi; have hown1 : OwE w1 B v L := Hown.out.move (B' := w.heap.size) ⟨hb1.os, hb1.tape, hb1.output, hg1.size, fun k hk => hg1.block k hk (by simp [Value.ownBlock])⟩ (Nat.le_refl _); obtain ⟨Ai, ci, rfl, _⟩ := OwT.vs hvi; have Hvi := hide hvi; have Hown1 := hide hown1; have Hb1 := hide hb1; have Hg1 := hide hg1; clear hvi hown1 hb1 hg1) | (refine wpList_pushE rfl (.tmp 17) (.tmp 23) rfl B w _ _ L ⟨pos, del, ins⟩ _ rfl rfl rfl Hown1.out Hvi.out Hl.out Hb1.out (Nat.le_trans HB.out Hb1.out.size) ?_; intro v' w2 hown2 hb2 hg2; have Hg2 := hide hg2; have Hown2 := hide hown2; have Hb2 := hide hb2; clear hown2 hb2 hg2))
      go_ret
      exact ⟨_, rfl, by rw [He.out]; exact Hown2.out, Hb2.out, grown_then Hg1.out Hg2.out⟩
end Go.Proofs.Ytofccahgmkifjaa.Df
namespace Go.Proofs.Ytofccahgmkifjaa.Df
open Go Go.RowKit Kt Lw

theorem vs_cut {w : World} {P : Nat → Prop} {A : Option Addr} {c : Nat} {l : Ls} (h : Vs w P A c (texts l)) {i j : Nat} (hij : i ≤ j) (hj : j ≤ l.length) :
    Vs w P (if c = i then A else A.map (·.add i)) (c - i) (texts ((l.drop i).take (j - i))) := by
  have h1 := h.1
  rw [texts_len] at h1
  refine ⟨by rw [texts_len, List.length_take, List.length_drop]; omega, fun hn => ?_⟩
  rw [texts_len, List.length_take, List.length_drop] at hn
  obtain ⟨b, o, rfl, hp, hc⟩ := h.2 (by rw [texts_len]; omega)
  rw [if_neg (by omega)]
  refine ⟨b, o + i, by simp [Addr.add_mid], hp, fun k v hk => ?_⟩
  have hkl := (List.getElem?_eq_some_iff.1 hk).1
  rw [texts_len, List.length_take, List.length_drop] at hkl
  rw [show o + i + k = o + (i + k) from by omega]
  refine hc (i + k) v ?_
  rw [← hk]
  unfold texts
  rw [List.getElem?_map, List.getElem?_map, List.getElem?_take, if_pos (by omega), List.getElem?_drop]

theorem own_ne {w : World} {B g : Nat} {v : Value} {l : Ls} {cs : List Value} (hrow : Row w g tE cs) (hown : OwT w B tS v l) : some g ≠ v.ownBlock := by
  intro h
  rcases hown.2 with ⟨rfl, _⟩ | ⟨g', cap', cur', rfl, _, hgg', _⟩
  · cases h
  · simp only [Value.ownBlock, Option.some.injEq] at h
    subst h
    unfold Row at hrow
    rw [hgg'] at hrow
    simp [tS, tE] at hrow
theorem run_cut2 (w : World) (A : Option Addr) (n c i j : Nat) (hij : i ≤ j) (hj : j ≤ c) :
    (Instr.slice 22 (.slice A n c) (some (.int .i64 (i : Int))) (some (.int .i64 (j : Int))) none).run Try.prog w = .ok (.slice (if c = i then A else A.map (·.add i)) (j - i) (c - i)) w := by
  have hu := run_underlying Try.underlying22
  cases A with
  | none => go_simp
  | some ad => go_simp
theorem run_cut1 (w : World) (A : Option Addr) (n c i : Nat) (hi : i ≤ n) :
    (Instr.slice 22 (.slice A n c) (some (.int .i64 (i : Int))) none none).run Try.prog w = .ok (.slice (if c = i then A else A.map (·.add i)) (n - i) (c - i)) w := by
  have hu := run_underlying Try.underlying22
  cases A with
  | none => go_simp
  | some ad => go_simp

end Go.Proofs.Ytofccahgmkifjaa.Df
namespace Go.Proofs.Ytofccahgmkifjaa.Df
open Go Go.RowKit Kt Lw

theorem infoTx : (Try.prog.info? 9).map (fun i => (i.zero, i.size, i.bytes)) = some (some (.string ⟨#[]⟩), 1, 16) := by kernel_rfl
theorem wp_pushT {o : Oper} {a : Act} {K : Act → World → Prop} {Q : Exit → Act → World → Prop} {W : World} (s x : Operand)
    (ho : o.op = .call { callee := .builtin .append, args := #[s, x], argTypes := #[22, 22] })
    (B : Nat) (w0 : World) (v : Value) (l : Ls) (y : List UInt8) (cs : Array Value) (hs : a.eval s = v) (hx : a.eval x = .slice (some ⟨W.heap.size, 0, none⟩) 1 1) (hc : cs = #[.string ⟨y.toArray⟩])
    (hown : OwT W B tS v l) (hlen : l.length + 1 ≤ 1000000000) (hb : Below B w0 W) (hbase : B ≤ W.heap.size)
    (h : ∀ v' w', OwT w' B tS v' (l ++ [y]) → Below B w0 w' → W.grownBy w' v.ownBlock → (v'.ownBlock = v.ownBlock ∨ v'.ownBlock = some (W.heap.size + 1)) → K (a.put o.dst v') w') : o.wp Try.prog a (W.alloc (.cells cs tS)) K Q := by
  obtain ⟨i0, hi0, hz0, hz1, hz2⟩ := info_parts infoTx
  subst hc
  have hown' : (W.alloc (.cells #[.string ⟨y.toArray⟩] tS)).ownsRow B tS 1 v l.length (texts l) := World.ownsRow.alloc hown _
  have hnews : ∀ j u, (texts [y])[j]? = some u → (W.alloc (.cells #[.string ⟨y.toArray⟩] tS)).cell? ((⟨W.heap.size, 0, none⟩ : Addr).add j) = some u := fun j u hu => by
    rw [Addr.add_mid, (Row.fresh W tS #[.string ⟨y.toArray⟩]).cell, Nat.zero_add]
    exact hu
  obtain ⟨v', w', hr, h1, h2, _⟩ := run_append_own (P := Try.prog) (W.alloc (.cells #[.string ⟨y.toArray⟩] tS)) B 22 o.type tS i0 (.string ⟨#[]⟩) 1 16 Try.underlying22 hi0 hz0 hz1 hz2 rfl (by omega) v l.length (texts l) hown'
    ⟨W.heap.size, 0, none⟩ 1 1 (texts [y]) rfl hnews (texts_one [y]) (by unfold maxLen; omega) (by omega) (by simp; omega)
  have hg := grownBy_back _ h2
  have hbl : v'.ownBlock = v.ownBlock ∨ v'.ownBlock = some (W.heap.size + 1) := by
    rcases hown'.2 with ⟨rfl, h0⟩ | ⟨g, cap, cur, rfl, _, hgg, hnc, _, hcs, htake⟩
    · have hr2 := run_append_nil (P := Try.prog) (W.alloc (.cells #[.string ⟨y.toArray⟩] tS)) 22 o.type tS i0 (.string ⟨#[]⟩) Try.underlying22 hi0 hz0 ⟨W.heap.size, 0, none⟩ 1 1 (texts [y]) (by rw [hz1]; rfl) hnews (by omega) (by omega) (by rw [hz2]; omega)
      rw [hr] at hr2
      injection hr2 with e1 _
      right
      rw [e1]
      simp [Value.ownBlock]
    · by_cases hroom : l.length + 1 ≤ cap
      · have hr2 := run_append_room (P := Try.prog) (W.alloc (.cells #[.string ⟨y.toArray⟩] tS)) 22 o.type tS i0 Try.underlying22 hi0 g l.length cap cur hgg ⟨W.heap.size, 0, none⟩ 1 1 (texts [y]) (by rw [hz1]; rfl) hnews (texts_one [y]) hroom (by rw [hz1, hcs]; simp [texts]; omega)
        rw [hr] at hr2
        injection hr2 with e1 _
        left
        rw [e1]
        rfl
      · have hr2 := run_append_grow (P := Try.prog) (W.alloc (.cells #[.string ⟨y.toArray⟩] tS)) 22 o.type tS i0 (.string ⟨#[]⟩) Try.underlying22 hi0 hz0 ⟨g, 0, none⟩ l.length cap (texts l) (by rw [hz1, texts_len]; omega) (World.ownsRow.cells hown' rfl)
          ⟨W.heap.size, 0, none⟩ 1 1 (texts [y]) (by rw [hz1]; rfl) hnews (by omega) (by omega) (growslice_fits (by omega) (by rw [hz2]; omega))
        rw [hr] at hr2
        injection hr2 with e1 _
        right
        rw [e1]
        simp [Value.ownBlock]
  unfold Oper.wp execOp
  simp only [ho, resolve, invoke, builtin, Sem.run_bind, Sem.run_pure, Result.andThen_ok, List.map_toArray, List.map_cons, List.map_nil, hs, hx, hr]
  refine h v' w' ?_ (hb.grown hg hbase fun k hk => (World.ownsRow.lt hown k hk).1) hg hbl
  unfold OwT
  rw [List.length_append, texts_append]
  exact h1
theorem wpList_pushT {ops : Array Oper} {rest : List Oper} {o : Oper} {a : Act} {Q : Exit → Act → World → Prop} {W : World} (hgd : o.guard = none) (s x : Operand)
    (ho : o.op = .call { callee := .builtin .append, args := #[s, x], argTypes := #[22, 22] })
    (B : Nat) (w0 : World) (v : Value) (l : Ls) (y : List UInt8) (cs : Array Value) (hs : a.eval s = v) (hx : a.eval x = .slice (some ⟨W.heap.size, 0, none⟩) 1 1) (hc : cs = #[.string ⟨y.toArray⟩])
    (hown : OwT W B tS v l) (hlen : l.length + 1 ≤ 1000000000) (hb : Below B w0 W) (hbase : B ≤ W.heap.size)
    (h : ∀ v' w', OwT w' B tS v' (l ++ [y]) → Below B w0 w' → W.grownBy w' v.ownBlock → (v'.ownBlock = v.ownBlock ∨ v'.ownBlock = some (W.heap.size + 1)) → wpList Try.prog ops Q rest (a.put o.dst v') w') : wpList Try.prog ops Q (o :: rest) a (W.alloc (.cells cs tS)) :=
  wpList_plain hgd fun _ hK => wp_pushT s x ho B w0 v l y cs hs hx hc hown hlen hb hbase fun v' w' h1 h2 h3 h4 => hK _ _ (h v' w' h1 h2 h3 h4)
end Go.Proofs.Ytofccahgmkifjaa.Df
