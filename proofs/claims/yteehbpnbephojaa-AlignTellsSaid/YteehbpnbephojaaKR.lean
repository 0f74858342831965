/-
  Rows of regions: such that came in, and such that the call itself owns.
-/
import Derived.Test.YteehbpnbephojaaJL
import Derived.Test.YteehbpnbephojaaEY
namespace Go.Proofs.Yteehbpnbephojaa.Al
open Go Go.RowKit Go.WideShapes Go.ChangeShapes Go.ChangeAt Go.ChangeMaps Go.Deep Kt Lw Li Df

/-- a region's cells -/
def rgC (r : Rg) : List Value := [.int .i64 r.kind, .int .i64 r.o0, .int .i64 r.on, .int .i64 r.a0, .int .i64 r.an, .int .i64 r.b0, .int .i64 r.bn]
theorem rgC_len (r : Rg) : (rgC r).length = 7 := rfl
/-- regions in a row of the call's own -/
def OwR (w : World) (B : Nat) (v : Value) (L : List Rg) : Prop := w.ownsRow B tR 7 v L.length (L.flatMap rgC)
/-- '.slice A n c' reads as these regions -/
def Rgs (w : World) (A : Option Addr) (c : Nat) (L : List Rg) : Prop :=
  L.length ≤ c ∧ (0 < L.length → ∃ b o, A = some ⟨b, o, none⟩ ∧ b < w.heap.size ∧ ∀ j r, L[j]? = some r → w.rangeAt b (o + 7 * j) (rgC r))
theorem OwR.nil (w : World) (B : Nat) : OwR w B (.slice none 0 0) [] := World.ownsRow_nil _ _ _ _
theorem Rgs.nil (w : World) (A : Option Addr) (c : Nat) : Rgs w A c [] := ⟨Nat.zero_le _, fun h => by simp at h⟩
theorem Rgs.keep {w w' : World} {A : Option Addr} {c : Nat} {L : List Rg} (h : Rgs w A c L) (hb : Below w.heap.size w w') : Rgs w' A c L :=
  ⟨h.1, fun hn => by
    obtain ⟨b, o, rfl, hlt, he⟩ := h.2 hn
    exact ⟨b, o, rfl, Nat.lt_of_lt_of_le hlt hb.size, fun j e hj i v hi => (World.cell?_of_block (a := ⟨b, o + 7 * j + i, none⟩) (hb.block b hlt)).trans (he j e hj i v hi)⟩⟩
theorem OwR.rgs {w : World} {B : Nat} {v : Value} {L : List Rg} (h : OwR w B v L) : ∃ A c, v = .slice A L.length c ∧ Rgs w A c L := by
  have h' := h
  rcases h.2 with ⟨rfl, h0⟩ | ⟨g, cap, cur, rfl, hB, hg, hnc, hcm, hs, ht⟩
  · have e : L = [] := List.eq_nil_of_length_eq_zero h0
    subst e
    exact ⟨none, 0, rfl, Rgs.nil _ _ _⟩
  · refine ⟨_, cap, rfl, hnc, fun _ => ⟨g, 0, rfl, (Array.getElem?_eq_some_iff.1 hg).1, fun j e hj k u hk => ?_⟩⟩
    have hjl : j < L.length := (List.getElem?_eq_some_iff.1 hj).1
    have hk7 : k < 7 := (List.getElem?_eq_some_iff.1 hk).1
    have := World.ownsRow.cellAt (cap := cap) h' (7 * j + k) (by omega)
    rw [Nat.zero_add, this, flat_at rgC 7 rgC_len L j k e hj hk7]
    exact hk
theorem OwR.below {w w' : World} {B : Nat} {v : Value} {L : List Rg} (h : OwR w B v L) {B' : Nat} (hb : Below B' w w') (hv : ∀ g, v.ownBlock = some g → g < B') : OwR w' B v L := by
  refine ⟨h.1, ?_⟩
  rcases h.2 with ⟨h1, h2⟩ | ⟨g, cap, cur, hv', h1, h2, h3⟩
  · exact .inl ⟨h1, h2⟩
  · exact .inr ⟨g, cap, cur, hv', h1, (hb.block g (hv g (by rw [hv']; rfl))).trans h2, h3⟩
theorem OwR.keep {w w' : World} {B : Nat} {v : Value} {L : List Rg} (h : OwR w B v L) (hb : Below w.heap.size w w') : OwR w' B v L := h.below hb fun g hg => (World.ownsRow.lt h g hg).2
theorem OwR.grown {w w' : World} {B : Nat} {v : Value} {L : List Rg} {r : Option Nat} (h : OwR w B v L) (hg : w.grownBy w' r) (hr : ∀ g, v.ownBlock = some g → some g ≠ r) : OwR w' B v L := by
  refine ⟨h.1, ?_⟩
  rcases h.2 with ⟨h1, h2⟩ | ⟨g, cap, cur, hv', h1, h2, h3⟩
  · exact .inl ⟨h1, h2⟩
  · exact .inr ⟨g, cap, cur, hv', h1, (hg.block g (Array.getElem?_eq_some_iff.1 h2).1 (hr g (by rw [hv']; rfl))).trans h2, h3⟩
theorem OwR.base {w : World} {B B' : Nat} {v : Value} {L : List Rg} (h : OwR w B v L) (hb : B' ≤ B) : OwR w B' v L :=
  ⟨h.1, h.2.imp id fun ⟨g, cap, cur, hv', h1, h2⟩ => ⟨g, cap, cur, hv', Nat.le_trans hb h1, h2⟩⟩
theorem OwR.drewN {w : World} {B : Nat} {v : Value} {L : List Rg} (h : OwR w B v L) (n : Nat) : OwR (w.drewN n) B v L := h
theorem OwR.drew {w : World} {B : Nat} {v : Value} {L : List Rg} (h : OwR w B v L) : OwR w.drew B v L := h
/-- a block of other cells is none of the row's -/
theorem OwR.ne {w : World} {B g : Nat} {t : TypeId} {cs : List Value} {v : Value} {L : List Rg} (hrow : Row w g t cs) (ht : t ≠ tR) (h : OwR w B v L) : ∀ b, v.ownBlock = some b → b ≠ g := by
  intro b hb e
  subst e
  rcases h.2 with ⟨rfl, _⟩ | ⟨g', cap, cur, rfl, _, hg', _⟩
  · cases hb
  · simp only [Value.ownBlock, Option.some.injEq] at hb
    subst hb
    unfold Row at hrow
    rw [hg'] at hrow
    simp only [Option.some.injEq, Obj.cells.injEq] at hrow
    exact ht hrow.2.1.symm
theorem infoRg : (Try.prog.info? 32).map (fun i => (i.zero, i.size, i.bytes)) = some (some (.agg #[.int .i64 0, .int .i64 0, .int .i64 0, .int .i64 0, .int .i64 0, .int .i64 0, .int .i64 0]), 7, 56) := by kernel_rfl
/-- append of one region -/
theorem wp_pushR {o : Oper} {a : Act} {K : Act → World → Prop} {Q : Exit → Act → World → Prop} {W : World} (s x : Operand)
    (ho : o.op = .call { callee := .builtin .append, args := #[s, x], argTypes := #[25, 25] })
    (B : Nat) (w0 : World) (v : Value) (L : List Rg) (e : Rg) (cs : Array Value) (hs : a.eval s = v) (hx : a.eval x = .slice (some ⟨W.heap.size, 0, none⟩) 1 1) (hc : cs = (rgC e).toArray)
    (hown : OwR W B v L) (hlen : L.length + 1 ≤ 1000000000) (hb : Below B w0 W) (hbase : B ≤ W.heap.size)
    (h : ∀ v' w', OwR w' B v' (L ++ [e]) → Below B w0 w' → W.grownBy w' v.ownBlock → K (a.put o.dst v') w') : o.wp Try.prog a (W.alloc (.cells cs tR)) K Q := by
  obtain ⟨i0, hi0, hz0, hz1, hz2⟩ := info_parts infoRg
  subst hc
  refine wp_append_own _ s x 25 ho B tR i0 (.agg #[.int .i64 0, .int .i64 0, .int .i64 0, .int .i64 0, .int .i64 0, .int .i64 0, .int .i64 0]) 7 56 Try.underlying25 hi0 hz0 hz1 hz2 rfl (by omega) v L.length (L.flatMap rgC) hs (World.ownsRow.alloc hown _)
    ⟨W.heap.size, 0, none⟩ 1 1 (rgC e) hx rfl (fun j u hu => ?_) ?_ (by unfold maxLen; omega) (by omega) (by simp; omega) (fun v' w' h1 h2 _ => ?_)
  · rw [Addr.add_mid, (Row.fresh W tR (rgC e).toArray).cell]
    simpa using hu
  · intro u hu
    simp only [rgC, List.mem_cons, List.not_mem_nil, or_false] at hu
    rcases hu with rfl | rfl | rfl | rfl | rfl | rfl | rfl <;> rfl
  · have hg := grownBy_back _ h2
    refine h v' w' ?_ (hb.grown hg hbase fun k hk => (World.ownsRow.lt hown k hk).1) hg
    unfold OwR
    rw [List.flatMap_append, List.length_append]
    simpa using h1
theorem wpList_pushR {ops : Array Oper} {rest : List Oper} {o : Oper} {a : Act} {Q : Exit → Act → World → Prop} {W : World} (hgd : o.guard = none) (s x : Operand)
    (ho : o.op = .call { callee := .builtin .append, args := #[s, x], argTypes := #[25, 25] })
    (B : Nat) (w0 : World) (v : Value) (L : List Rg) (e : Rg) (cs : Array Value) (hs : a.eval s = v) (hx : a.eval x = .slice (some ⟨W.heap.size, 0, none⟩) 1 1) (hc : cs = (rgC e).toArray)
    (hown : OwR W B v L) (hlen : L.length + 1 ≤ 1000000000) (hb : Below B w0 W) (hbase : B ≤ W.heap.size)
    (h : ∀ v' w', OwR w' B v' (L ++ [e]) → Below B w0 w' → W.grownBy w' v.ownBlock → wpList Try.prog ops Q rest (a.put o.dst v') w') : wpList Try.prog ops Q (o :: rest) a (W.alloc (.cells cs tR)) :=
  wpList_plain hgd fun _ hK => wp_pushR s x ho B w0 v L e cs hs hx hc hown hlen hb hbase fun v' w' h1 h2 h3 => hK _ _ (h v' w' h1 h2 h3)
/-- the region number k, in a world behind -/
theorem Rgs.at {w w' : World} {A : Option Addr} {c : Nat} {L : List Rg} (h : Rgs w A c L) (hb : Below w.heap.size w w') {k : Nat} (hk : k < L.length) :
    ∃ b o r, A = some ⟨b, o, none⟩ ∧ b < w.heap.size ∧ L[k]? = some r ∧ L.drop k = r :: L.drop (k + 1) ∧ (w'.cell? ⟨b, o + k * 7, none⟩ = some (.int .i64 r.kind) ∧ w'.cell? ⟨b, o + k * 7 + 1, none⟩ = some (.int .i64 r.o0) ∧ w'.cell? ⟨b, o + k * 7 + 2, none⟩ = some (.int .i64 r.on) ∧ w'.cell? ⟨b, o + k * 7 + 3, none⟩ = some (.int .i64 r.a0) ∧
      w'.cell? ⟨b, o + k * 7 + 4, none⟩ = some (.int .i64 r.an) ∧ w'.cell? ⟨b, o + k * 7 + 5, none⟩ = some (.int .i64 r.b0) ∧ w'.cell? ⟨b, o + k * 7 + 6, none⟩ = some (.int .i64 r.bn)) := by
  obtain ⟨b, o, rfl, hlt, he⟩ := h.2 (by omega)
  have h1 := he k _ (List.getElem?_eq_getElem hk)
  rw [Nat.mul_comm] at h1
  have h3 : ∀ i v, (rgC L[k])[i]? = some v → w'.cell? ⟨b, o + k * 7 + i, none⟩ = some v := fun i v hi => (World.cell?_of_block (a := ⟨b, o + k * 7 + i, none⟩) (hb.block b hlt)).trans (h1 i v hi)
  exact ⟨b, o, _, rfl, hlt, List.getElem?_eq_getElem hk, List.drop_eq_getElem_cons hk, h3 0 _ rfl, h3 1 _ rfl, h3 2 _ rfl, h3 3 _ rfl, h3 4 _ rfl, h3 5 _ rfl, h3 6 _ rfl⟩
section
variable {H : Type} {enc : TypeId × Value → H}
theorem trod_struct4R {P : Program} {w : World} {base : Nat} {spare : Nat → Bool} {held : Bool} {t : TypeId} {f0 f1 f2 f3 : Field} {fuel : Nat} {cs : List Value} {x : DataW H × List MemPlace} (ht : P.underlying t = some (.struct #[f0, f1, f2, f3])) (h : DataW.trod enc P w base spare held fuel t cs = some x) :
    ∃ y0 y1 y2 y3 n, x = (.agg [y0.1, y1.1, y2.1, y3.1], y0.2 ++ (y1.2 ++ (y2.2 ++ y3.2))) ∧ cs.length = P.cellsOf t ∧ DataW.trod enc P w base spare held n f0.type ((cs.drop f0.offset).take (P.cellsOf f0.type)) = some y0 ∧
      DataW.trod enc P w base spare held n f1.type ((cs.drop f1.offset).take (P.cellsOf f1.type)) = some y1 ∧ DataW.trod enc P w base spare held n f2.type ((cs.drop f2.offset).take (P.cellsOf f2.type)) = some y2 ∧
      DataW.trod enc P w base spare held n f3.type ((cs.drop f3.offset).take (P.cellsOf f3.type)) = some y3 := by
  obtain ⟨xs, n, _, rfl, hl, hlen, hf⟩ := DataW.trod_struct ht h
  match xs, hlen with
  | [y0, y1, y2, y3], _ => exact ⟨y0, y1, y2, y3, n, by simp, hl, by simpa using hf 0 f0 rfl, by simpa using hf 1 f1 rfl, by simpa using hf 2 f2 rfl, by simpa using hf 3 f3 rfl⟩
/-- a span's two numbers -/
theorem open_span {W : World} {base : Nat} {spare : Nat → Bool} {held : Bool} {n : Nat} {cs : List Value} {y : DataW H × List MemPlace} (h : DataW.trod enc Try.prog W base spare held n 30 cs = some y) :
    ∃ x m : Int, cs[0]? = some (.int .i64 x) ∧ cs[1]? = some (.int .i64 m) := by
  have cI : Try.prog.cellsOf 3 = 1 := by kernel_rfl
  obtain ⟨y0, y1, n', _, _, h0, h1⟩ := trod_struct2 Try.underlying30 h
  simp only [cI] at h0 h1
  obtain ⟨x, e0, _, _⟩ := DataW.trod_int Try.underlying3 h0
  obtain ⟨m, e1, _, _⟩ := DataW.trod_int Try.underlying3 h1
  exact ⟨x, m, one_at _ _ _ e0, one_at _ _ _ e1⟩
theorem at_in {cs : List Value} {j n i : Nat} {v : Value} (h : ((cs.drop j).take n)[i]? = some v) : cs[j + i]? = some v := by
  rw [List.getElem?_take] at h
  split at h
  · rw [List.getElem?_drop] at h; exact h
  · cases h
set_option maxRecDepth 100000 in
theorem open_regions {W : World} {base : Nat} {v : Value} {d : DataW H} {ps : List MemPlace}
    (hval : Value.okWide Try.prog W .any base 25 v) (h : DataW.Trod enc Try.prog W 0 (fun _ => true) true 25 v d ps) :
    ∃ (L : List Rg) (A : Option Addr) (c : Nat), v = .slice A L.length c ∧ Rgs W A c L ∧ L.length ≤ maxLen := by
  obtain ⟨a1, len, cap, rfl⟩ := okWide_slice Try.underlying25 hval
  obtain ⟨fuel, hf⟩ := h
  rcases open_slice Try.underlying25 hf with ⟨hcs, _⟩ | ⟨a, len', cap', m, n, D, Pl, hcs, _, hl, hm, hmm, _, hi⟩
  · simp [Value.cells] at hcs
    obtain ⟨rfl, rfl, rfl⟩ := hcs
    exact ⟨[], none, 0, rfl, Rgs.nil _ _ _, Nat.zero_le _⟩
  · simp [Value.cells] at hcs
    obtain ⟨rfl, rfl, rfl⟩ := hcs
    simp only [if_true] at hmm
    subst hmm
    have hC : Try.prog.cellsOf 32 = 7 := by kernel_rfl
    have cI : Try.prog.cellsOf 3 = 1 := by kernel_rfl
    have cS : Try.prog.cellsOf 30 = 2 := by kernel_rfl
    rw [hC] at hi
    have hel : ∀ i, i < len → ∃ e : Rg, ∀ k u, (rgC e)[k]? = some u → W.cell? ((a.add (i * 7)).add k) = some u := by
      intro i hil
      obtain ⟨cs', hc, ht⟩ := hi i (by omega)
      obtain ⟨_, hcl, hat⟩ := World.cells?_some hc
      obtain ⟨y0, y1, y2, y3, n', _, _, h0, h1, h2, h3⟩ := trod_struct4R Try.underlying32 ht
      simp only [cI, cS] at h0 h1 h2 h3
      obtain ⟨kd, e0, _, _⟩ := DataW.trod_int Try.underlying3 h0
      obtain ⟨o0, on, p1, p2⟩ := open_span h1
      obtain ⟨a0, an, p3, p4⟩ := open_span h2
      obtain ⟨b0, bn, p5, p6⟩ := open_span h3
      have k0 := one_at _ _ _ e0
      have k1 := at_in p1
      have k2 := at_in p2
      have k3 := at_in p3
      have k4 := at_in p4
      have k5 := at_in p5
      have k6 := at_in p6
      refine ⟨⟨kd, o0, on, a0, an, b0, bn⟩, fun k u hk => ?_⟩
      have hk7 : k < 7 := (List.getElem?_eq_some_iff.1 hk).1
      rw [hat k hk7]
      rcases k with _ | _ | _ | _ | _ | _ | _ | k
      · rw [k0, ← hk]; rfl
      · rw [k1, ← hk]; rfl
      · rw [k2, ← hk]; rfl
      · rw [k3, ← hk]; rfl
      · rw [k4, ← hk]; rfl
      · rw [k5, ← hk]; rfl
      · rw [k6, ← hk]; rfl
      · omega
    obtain ⟨L, hLl, hQ⟩ := list_of _ len hel
    refine ⟨L, some a, m, by rw [hLl], ⟨by omega, fun hn => ?_⟩, by omega⟩
    obtain ⟨ab, ao, spot⟩ := a
    obtain ⟨e0, hc0⟩ := hel 0 (by omega)
    have hspot : spot = none := by simpa [Addr.add] using World.cell?_spot (hc0 0 _ rfl)
    subst hspot
    have hlt : ab < W.heap.size := by
      have := hc0 0 _ rfl
      rw [Addr.add_mid, Addr.add_mid] at this
      exact World.block_lt_of_cell? W _ this
    refine ⟨ab, ao, rfl, hlt, fun j e hj k u hk => ?_⟩
    have := hQ j e hj k u hk
    rw [Addr.add_mid, Addr.add_mid] at this
    rw [Nat.mul_comm 7 j]
    exact this
end
end Go.Proofs.Yteehbpnbephojaa.Al
