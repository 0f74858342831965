/-
  Rows of regions: such that came in, and such that the call itself owns.
-/
import Derived.Test.YtghnieddokhagaaQEE
import Derived.Test.YtghnieddokhagaaQTE
import Derived.BigQuiet
import Derived.Test.YtghnieddokhagaaQReg
namespace Go.Proofs.Ytghnieddokhagaa.Al
open Go Go.RowKit Go.WideShapes Go.ChangeShapes Go.ChangeAt Go.ChangeMaps Go.Deep Kt Lw Li Df

/-- a region's cells -/
def rgC (r : Rg) : List Value := [.int .i64 r.kind, .int .i64 r.o0, .int .i64 r.on, .int .i64 r.a0, .int .i64 r.an, .int .i64 r.b0, .int .i64 r.bn]
theorem rgC_len (r : Rg) : (rgC r).length = 7 := rfl
/-- regions in a row of the call's own -/
def OwR (w : World) (B : Nat) (v : Value) (L : List Rg) : Prop := w.ownsRow B tR 7 v L.length (L.flatMap rgC)
/-- '.slice A n c' reads as these regions -/
def Rgs (w : World) (A : Option Addr) (c : Nat) (L : List Rg) : Prop :=
  L.length ≤ c ∧ (0 < L.length → ∃ b o, A = some ⟨b, o, none⟩ ∧ b < w.heap.size ∧ ∀ j r, L[j]? = some r → w.rangeAt b (o + 7 * j) (rgC r))
theorem OwR.nil (w : World) (B : Nat) : OwR w B (.slice none 0 0) [] := World.ownsRow_nil _ _ _ _
theorem Rgs.nil (w : World) (A : Option Addr) (c : Nat) : Rgs w A c [] := ⟨Nat.zero_le _, fun h => by simp at h⟩
theorem Rgs.keep {w w' : World} {A : Option Addr} {c : Nat} {L : List Rg} (h : Rgs w A c L) (hb : Below w.heap.size w w') : Rgs w' A c L :=
  ⟨h.1, fun hn => by
    obtain ⟨b, o, rfl, hlt, he⟩ := h.2 hn
    exact ⟨b, o, rfl, Nat.lt_of_lt_of_le hlt hb.size, fun j e hj i v hi => (World.cell?_of_block (a := ⟨b, o + 7 * j + i, none⟩) (hb.block b hlt)).trans (he j e hj i v hi)⟩⟩
theorem OwR.rgs {w : World} {B : Nat} {v : Value} {L : List Rg} (h : OwR w B v L) : ∃ A c, v = .slice A L.length c ∧ Rgs w A c L := by
  have h' := h
  rcases h.2 with ⟨rfl, h0⟩ | ⟨g, cap, cur, rfl, hB, hg, hnc, hcm, hs, ht⟩
  · have e : L = [] := List.eq_nil_of_length_eq_zero h0
    subst e
    exact ⟨none, 0, rfl, Rgs.nil _ _ _⟩
  · refine ⟨_, cap, rfl, hnc, fun _ => ⟨g, 0, rfl, (Array.getElem?_eq_some_iff.1 hg).1, fun j e hj k u hk => ?_⟩⟩
    have hjl : j < L.length := (List.getElem?_eq_some_iff.1 hj).1
    have hk7 : k < 7 := (List.getElem?_eq_some_iff.1 hk).1
    have := World.ownsRow.cellAt (cap := cap) h' (7 * j + k) (by omega)
    rw [Nat.zero_add, this, flat_at rgC 7 rgC_len L j k e hj hk7]
    exact hk
theorem OwR.below {w w' : World} {B : Nat} {v : Value} {L : List Rg} (h : OwR w B v L) {B' : Nat} (hb : Below B' w w') (hv : ∀ g, v.ownBlock = some g → g < B') : OwR w' B v L := by
  refine ⟨h.1, ?_⟩
  rcases h.2 with ⟨h1, h2⟩ | ⟨g, cap, cur, hv', h1, h2, h3⟩
  · exact .inl ⟨h1, h2⟩
  · exact .inr ⟨g, cap, cur, hv', h1, (hb.block g (hv g (by rw [hv']; rfl))).trans h2, h3⟩
theorem OwR.keep {w w' : World} {B : Nat} {v : Value} {L : List Rg} (h : OwR w B v L) (hb : Below w.heap.size w w') : OwR w' B v L := h.below hb fun g hg => (World.ownsRow.lt h g hg).2
theorem OwR.grown {w w' : World} {B : Nat} {v : Value} {L : List Rg} {r : Option Nat} (h : OwR w B v L) (hg : w.grownBy w' r) (hr : ∀ g, v.ownBlock = some g → some g ≠ r) : OwR w' B v L := by
  refine ⟨h.1, ?_⟩
  rcases h.2 with ⟨h1, h2⟩ | ⟨g, cap, cur, hv', h1, h2, h3⟩
  · exact .inl ⟨h1, h2⟩
  · exact .inr ⟨g, cap, cur, hv', h1, (hg.block g (Array.getElem?_eq_some_iff.1 h2).1 (hr g (by rw [hv']; rfl))).trans h2, h3⟩
theorem OwR.base {w : World} {B B' : Nat} {v : Value} {L : List Rg} (h : OwR w B v L) (hb : B' ≤ B) : OwR w B' v L :=
  ⟨h.1, h.2.imp id fun ⟨g, cap, cur, hv', h1, h2⟩ => ⟨g, cap, cur, hv', Nat.le_trans hb h1, h2⟩⟩
theorem OwR.drewN {w : World} {B : Nat} {v : Value} {L : List Rg} (h : OwR w B v L) (n : Nat) : OwR (w.drewN n) B v L := h
theorem OwR.drew {w : World} {B : Nat} {v : Value} {L : List Rg} (h : OwR w B v L) : OwR w.drew B v L := h
/-- a block of other cells is none of the row's -/
theorem OwR.ne {w : World} {B g : Nat} {t : TypeId} {cs : List Value} {v : Value} {L : List Rg} (hrow : Row w g t cs) (ht : t ≠ tR) (h : OwR w B v L) : ∀ b, v.ownBlock = some b → b ≠ g := by
  intro b hb e
  subst e
  rcases h.2 with ⟨rfl, _⟩ | ⟨g', cap, cur, rfl, _, hg', _⟩
  · cases hb
  · simp only [Value.ownBlock, Option.some.injEq] at hb
    subst hb
    unfold Row at hrow
    rw [hg'] at hrow
    simp only [Option.some.injEq, Obj.cells.injEq] at hrow
    exact ht hrow.2.1.symm
theorem infoRg : (Try.prog.info? 69).map (fun i => (i.zero, i.size, i.bytes)) = some (some (.agg #[.int .i64 0, .int .i64 0, .int .i64 0, .int .i64 0, .int .i64 0, .int .i64 0, .int .i64 0]), 7, 56) := by kernel_rfl
/-- append of one region -/
theorem wp_pushR {o : Oper} {a : Act} {K : Act → World → Prop} {Q : Exit → Act → World → Prop} {W : World} (s x : Operand)
    (ho : o.op = .call { callee := .builtin .append, args := #[s, x], argTypes := #[64, 64] })
    (B : Nat) (w0 : World) (v : Value) (L : List Rg) (e : Rg) (cs : Array Value) (hs : a.eval s = v) (hx : a.eval x = .slice (some ⟨W.heap.size, 0, none⟩) 1 1) (hc : cs = (rgC e).toArray)
    (hown : OwR W B v L) (hlen : L.length + 1 ≤ 1000000000) (hb : Below B w0 W) (hbase : B ≤ W.heap.size)
    (h : ∀ v' w', OwR w' B v' (L ++ [e]) → Below B w0 w' → W.grownBy w' v.ownBlock → K (a.put o.dst v') w') : o.wp Try.prog a (W.alloc (.cells cs tR)) K Q := by
  obtain ⟨i0, hi0, hz0, hz1, hz2⟩ := info_parts infoRg
  subst hc
  refine wp_append_own _ s x 64 ho B tR i0 (.agg #[.int .i64 0, .int .i64 0, .int .i64 0, .int .i64 0, .int .i64 0, .int .i64 0, .int .i64 0]) 7 56 Try.underlying64 hi0 hz0 hz1 hz2 rfl (by omega) v L.length (L.flatMap rgC) hs (World.ownsRow.alloc hown _)
    ⟨W.heap.size, 0, none⟩ 1 1 (rgC e) hx rfl (fun j u hu => ?_) ?_ (by unfold maxLen; omega) (by omega) (by simp; omega) (fun v' w' h1 h2 _ => ?_)
  · rw [Addr.add_mid, (Row.fresh W tR (rgC e).toArray).cell]
    simpa using hu
  · intro u hu
    simp only [rgC, List.mem_cons, List.not_mem_nil, or_false] at hu
    rcases hu with rfl | rfl | rfl | rfl | rfl | rfl | rfl <;> rfl
  · have hg := grownBy_back _ h2
    refine h v' w' ?_ (hb.grown hg hbase fun k hk => (World.ownsRow.lt hown k hk).1) hg
    unfold OwR
    rw [List.flatMap_append, List.length_append]
    simpa using h1
theorem wpList_pushR {ops : Array Oper} {rest : List Oper} {o : Oper} {a : Act} {Q : Exit → Act → World → Prop} {W : World} (hgd : o.guard = none) (s x : Operand)
    (ho : o.op = .call { callee := .builtin .append, args := #[s, x], argTypes := #[64, 64] })
    (B : Nat) (w0 : World) (v : Value) (L : List Rg) (e : Rg) (cs : Array Value) (hs : a.eval s = v) (hx : a.eval x = .slice (some ⟨W.heap.size, 0, none⟩) 1 1) (hc : cs = (rgC e).toArray)
    (hown : OwR W B v L) (hlen : L.length + 1 ≤ 1000000000) (hb : Below B w0 W) (hbase : B ≤ W.heap.size)
    (h : ∀ v' w', OwR w' B v' (L ++ [e]) → Below B w0 w' → W.grownBy w' v.ownBlock → wpList Try.prog ops Q rest (a.put o.dst v') w') : wpList Try.prog ops Q (o :: rest) a (W.alloc (.cells cs tR)) :=
  wpList_plain hgd fun _ hK => wp_pushR s x ho B w0 v L e cs hs hx hc hown hlen hb hbase fun v' w' h1 h2 h3 => hK _ _ (h v' w' h1 h2 h3)
/-- the region number k, in a world behind -/
theorem Rgs.at {w w' : World} {A : Option Addr} {c : Nat} {L : List Rg} (h : Rgs w A c L) (hb : Below w.heap.size w w') {k : Nat} (hk : k < L.length) :
    ∃ b o r, A = some ⟨b, o, none⟩ ∧ b < w.heap.size ∧ L[k]? = some r ∧ L.drop k = r :: L.drop (k + 1) ∧ (w'.cell? ⟨b, o + k * 7, none⟩ = some (.int .i64 r.kind) ∧ w'.cell? ⟨b, o + k * 7 + 1, none⟩ = some (.int .i64 r.o0) ∧ w'.cell? ⟨b, o + k * 7 + 2, none⟩ = some (.int .i64 r.on) ∧ w'.cell? ⟨b, o + k * 7 + 3, none⟩ = some (.int .i64 r.a0) ∧
      w'.cell? ⟨b, o + k * 7 + 4, none⟩ = some (.int .i64 r.an) ∧ w'.cell? ⟨b, o + k * 7 + 5, none⟩ = some (.int .i64 r.b0) ∧ w'.cell? ⟨b, o + k * 7 + 6, none⟩ = some (.int .i64 r.bn)) := by
  obtain ⟨b, o, rfl, hlt, he⟩ := h.2 (by omega)
  have h1 := he k _ (List.getElem?_eq_getElem hk)
  rw [Nat.mul_comm] at h1
  have h3 : ∀ i v, (rgC L[k])[i]? = some v → w'.cell? ⟨b, o + k * 7 + i, none⟩ = some v := fun i v hi => (World.cell?_of_block (a := ⟨b, o + k * 7 + i, none⟩) (hb.block b hlt)).trans (h1 i v hi)
  exact ⟨b, o, _, rfl, hlt, List.getElem?_eq_getElem hk, List.drop_eq_getElem_cons hk, h3 0 _ rfl, h3 1 _ rfl, h3 2 _ rfl, h3 3 _ rfl, h3 4 _ rfl, h3 5 _ rfl, h3 6 _ rfl⟩
section
variable {H : Type} {enc : TypeId × Value → H}
theorem trod_struct4R {P : Program} {w : World} {base : Nat} {spare : Nat → Bool} {held : Bool} {t : TypeId} {f0 f1 f2 f3 : Field} {fuel : Nat} {cs : List Value} {x : DataW H × List MemPlace} (ht : P.underlying t = some (.struct #[f0, f1, f2, f3])) (h : DataW.trod enc P w base spare held fuel t cs = some x) :
    ∃ y0 y1 y2 y3 n, x = (.agg [y0.1, y1.1, y2.1, y3.1], y0.2 ++ (y1.2 ++ (y2.2 ++ y3.2))) ∧ cs.length = P.cellsOf t ∧ DataW.trod enc P w base spare held n f0.type ((cs.drop f0.offset).take (P.cellsOf f0.type)) = some y0 ∧
      DataW.trod enc P w base spare held n f1.type ((cs.drop f1.offset).take (P.cellsOf f1.type)) = some y1 ∧ DataW.trod enc P w base spare held n f2.type ((cs.drop f2.offset).take (P.cellsOf f2.type)) = some y2 ∧
      DataW.trod enc P w base spare held n f3.type ((cs.drop f3.offset).take (P.cellsOf f3.type)) = some y3 := by
  obtain ⟨xs, n, _, rfl, hl, hlen, hf⟩ := DataW.trod_struct ht h
  match xs, hlen with
  | [y0, y1, y2, y3], _ => exact ⟨y0, y1, y2, y3, n, by simp, hl, by simpa using hf 0 f0 rfl, by simpa using hf 1 f1 rfl, by simpa using hf 2 f2 rfl, by simpa using hf 3 f3 rfl⟩
/-- a span's two numbers -/
theorem open_span {W : World} {base : Nat} {spare : Nat → Bool} {held : Bool} {n : Nat} {cs : List Value} {y : DataW H × List MemPlace} (h : DataW.trod enc Try.prog W base spare held n 67 cs = some y) :
    ∃ x m : Int, cs[0]? = some (.int .i64 x) ∧ cs[1]? = some (.int .i64 m) := by
  have cI : Try.prog.cellsOf 3 = 1 := by kernel_rfl
  obtain ⟨y0, y1, n', _, _, h0, h1⟩ := trod_struct2 Try.underlying67 h
  simp only [cI] at h0 h1
  obtain ⟨x, e0, _, _⟩ := DataW.trod_int Try.underlying3 h0
  obtain ⟨m, e1, _, _⟩ := DataW.trod_int Try.underlying3 h1
  exact ⟨x, m, one_at _ _ _ e0, one_at _ _ _ e1⟩
theorem at_in {cs : List Value} {j n i : Nat} {v : Value} (h : ((cs.drop j).take n)[i]? = some v) : cs[j + i]? = some v := by
  rw [List.getElem?_take] at h
  split at h
  · rw [List.getElem?_drop] at h; exact h
  · cases h
set_option maxRecDepth 100000 in
theorem open_regions {W : World} {base : Nat} {v : Value} {d : DataW H} {ps : List MemPlace}
    (hval : Value.okWide Try.prog W .any base 64 v) (h : DataW.Trod enc Try.prog W 0 (fun _ => true) true 64 v d ps) :
    ∃ (L : List Rg) (A : Option Addr) (c : Nat), v = .slice A L.length c ∧ Rgs W A c L ∧ L.length ≤ maxLen := by
  obtain ⟨a1, len, cap, rfl⟩ := okWide_slice Try.underlying64 hval
  obtain ⟨fuel, hf⟩ := h
  rcases open_slice Try.underlying64 hf with ⟨hcs, _⟩ | ⟨a, len', cap', m, n, D, Pl, hcs, _, hl, hm, hmm, _, hi⟩
  · simp [Value.cells] at hcs
    obtain ⟨rfl, rfl, rfl⟩ := hcs
    exact ⟨[], none, 0, rfl, Rgs.nil _ _ _, Nat.zero_le _⟩
  · simp [Value.cells] at hcs
    obtain ⟨rfl, rfl, rfl⟩ := hcs
    simp only [if_true] at hmm
    subst hmm
    have hC : Try.prog.cellsOf 69 = 7 := by kernel_rfl
    have cI : Try.prog.cellsOf 3 = 1 := by kernel_rfl
    have cS : Try.prog.cellsOf 67 = 2 := by kernel_rfl
    rw [hC] at hi
    have hel : ∀ i, i < len → ∃ e : Rg, ∀ k u, (rgC e)[k]? = some u → W.cell? ((a.add (i * 7)).add k) = some u := by
      intro i hil
      obtain ⟨cs', hc, ht⟩ := hi i (by omega)
      obtain ⟨_, hcl, hat⟩ := World.cells?_some hc
      obtain ⟨y0, y1, y2, y3, n', _, _, h0, h1, h2, h3⟩ := trod_struct4R Try.underlying69 ht
      simp only [cI, cS] at h0 h1 h2 h3
      obtain ⟨kd, e0, _, _⟩ := DataW.trod_int Try.underlying3 h0
      obtain ⟨o0, on, p1, p2⟩ := open_span h1
      obtain ⟨a0, an, p3, p4⟩ := open_span h2
      obtain ⟨b0, bn, p5, p6⟩ := open_span h3
      have k0 := one_at _ _ _ e0
      have k1 := at_in p1
      have k2 := at_in p2
      have k3 := at_in p3
      have k4 := at_in p4
      have k5 := at_in p5
      have k6 := at_in p6
      refine ⟨⟨kd, o0, on, a0, an, b0, bn⟩, fun k u hk => ?_⟩
      have hk7 : k < 7 := (List.getElem?_eq_some_iff.1 hk).1
      rw [hat k hk7]
      rcases k with _ | _ | _ | _ | _ | _ | _ | k
      · rw [k0, ← hk]; rfl
      · rw [k1, ← hk]; rfl
      · rw [k2, ← hk]; rfl
      · rw [k3, ← hk]; rfl
      · rw [k4, ← hk]; rfl
      · rw [k5, ← hk]; rfl
      · rw [k6, ← hk]; rfl
      · omega
    obtain ⟨L, hLl, hQ⟩ := list_of _ len hel
    refine ⟨L, some a, m, by rw [hLl], ⟨by omega, fun hn => ?_⟩, by omega⟩
    obtain ⟨ab, ao, spot⟩ := a
    obtain ⟨e0, hc0⟩ := hel 0 (by omega)
    have hspot : spot = none := by simpa [Addr.add] using World.cell?_spot (hc0 0 _ rfl)
    subst hspot
    have hlt : ab < W.heap.size := by
      have := hc0 0 _ rfl
      rw [Addr.add_mid, Addr.add_mid] at this
      exact World.block_lt_of_cell? W _ this
    refine ⟨ab, ao, rfl, hlt, fun j e hj k u hk => ?_⟩
    have := hQ j e hj k u hk
    rw [Addr.add_mid, Addr.add_mid] at this
    rw [Nat.mul_comm 7 j]
    exact this
end
end Go.Proofs.Ytghnieddokhagaa.Al
namespace Go.Proofs.Ytghnieddokhagaa.Al
open Go Go.RowKit Kt Lw Li Df Kf

set_option maxRecDepth 100000 in
set_option maxHeartbeats 4000000 in
theorem add_r2 {g q0 : Nat} {x y z many m0 m1 : Int} {w : World} {B : Code} {K : Act → World → Prop} {Q' : Exit → Act → World → Prop} (x1 x2 x5 x6 x7 x8 x9 x10 x11 x12 x13 x14 x15 x16 x17 x18 x19 x20 x21 x22 x23 x24 x25 x26 x27 x28 x29 x30 x31 x32 x33 x34 x35 x36 x37 x38 x39 x40 x41 x42 x43 x44 x45 x46 x47 x48 x49 x50 x51 x52 x53 x54 x55 x56 x57 x58 x59 x60 x61 x62 x63 x64 x65 x66 : Value)
    (hB : B = (findR 2 (Try.f60.body.getD .skip)).getD .skip) (c1 : w.cell? ⟨g, 1, none⟩ = some (.int .i64 x)) (c3 : w.cell? ⟨g, 3, none⟩ = some (.int .i64 y)) (c5 : w.cell? ⟨g, 5, none⟩ = some (.int .i64 z))
    (q3 : w.cell? ⟨q0, 3, none⟩ = some (.int .i64 m0)) (q5 : w.cell? ⟨q0, 5, none⟩ = some (.int .i64 m1)) (hw0 : IntKind.i64.wrap (many + m0) = many + m0) (hw1 : IntKind.i64.wrap (many + m1) = many + m1)
    (hK : ∀ (q : Nat) (u11 u12 u13 u14 u15 u16 u17 u18 u19 u20 u21 u22 u23 u24 u25 u26 u27 u28 u29 u30 u31 u32 u33 u34 u35 u36 : Value) (wx : World), w.heap.size ≤ q → Row wx q tR (rgC ⟨0, x, many, y, many + m0, z, many + m1⟩) → Below w.heap.size w wx → K { tmps := List.toArray ((.pointer (some ⟨g, 0, none⟩)) :: x1 :: x2 :: (.pointer (some ⟨q0, 0, none⟩)) :: (.int .i64 many) :: (.pointer (some ⟨q, 0, none⟩)) :: x6 :: x7 :: x8 :: x9 :: x10 :: u11 :: u12 :: u13 :: u14 :: u15 :: u16 :: u17 :: u18 :: u19 :: u20 :: u21 :: u22 :: u23 :: u24 :: u25 :: u26 :: u27 :: u28 :: u29 :: u30 :: u31 :: u32 :: u33 :: u34 :: u35 :: u36 :: x37 :: x38 :: x39 :: x40 :: x41 :: x42 :: x43 :: x44 :: x45 :: x46 :: x47 :: x48 :: x49 :: x50 :: x51 :: x52 :: x53 :: x54 :: x55 :: x56 :: x57 :: x58 :: x59 :: x60 :: x61 :: x62 :: x63 :: x64 :: x65 :: x66 :: []), defers := [] } wx) :
    Code.wp Try.prog B (Exit.then K Q') { tmps := List.toArray ((.pointer (some ⟨g, 0, none⟩)) :: x1 :: x2 :: (.pointer (some ⟨q0, 0, none⟩)) :: (.int .i64 many) :: x5 :: x6 :: x7 :: x8 :: x9 :: x10 :: x11 :: x12 :: x13 :: x14 :: x15 :: x16 :: x17 :: x18 :: x19 :: x20 :: x21 :: x22 :: x23 :: x24 :: x25 :: x26 :: x27 :: x28 :: x29 :: x30 :: x31 :: x32 :: x33 :: x34 :: x35 :: x36 :: x37 :: x38 :: x39 :: x40 :: x41 :: x42 :: x43 :: x44 :: x45 :: x46 :: x47 :: x48 :: x49 :: x50 :: x51 :: x52 :: x53 :: x54 :: x55 :: x56 :: x57 :: x58 :: x59 :: x60 :: x61 :: x62 :: x63 :: x64 :: x65 :: x66 :: []), defers := [] } w := by
  have HF := hide hK
  clear hK
  subst hB
  conv => arg 2; whnf
  refine Rd.wp_region_tree (fun w' => w'.cell? ⟨q0, 3, none⟩ = some (.int .i64 m0) ∧ w'.cell? ⟨q0, 5, none⟩ = some (.int .i64 m1)) (.take 0 (.take 1 (.take 2 (.take 3 (.take 5 (.take 6 (.take 7 (.take 8 (.take 9 (.take 10 (.take 11 (.take 12 (.take 13 (.take 15 (.take 16 (.take 17 (.take 18 (.take 19 (.take 20 (.take 21 (.take 22 (.take 23 (.fork 4 (.fork 14 (.fork 24 (.take 25 (.one 26 (.one 27 .leaf))) 26 (.one 24 (.take 25 (.one 27 .leaf)))) 26 (.one 14 (.one 24 (.take 25 (.one 27 .leaf))))) 26 (.one 4 (.one 14 (.one 24 (.take 25 (.one 27 .leaf)))))))))))))))))))))))))))) (by kernel_rfl) (by kernel_rfl) ?_
  have HB0 : Hid (Below w.heap.size w w.drew) := (Below.refl _ w).drew
  generalize hl : List.cons _ _ = l
  have H0 := congrArg (fun l => List.getD l 0 default) hl.symm
  simp only [List.getD_cons_zero] at H0
  replace H0 := hide H0
  have H1 := congrArg (fun l => List.getD l 1 default) hl.symm
  simp only [List.getD_cons_zero, List.getD_cons_succ] at H1
  replace H1 := hide H1
  have H2 := congrArg (fun l => List.getD l 2 default) hl.symm
  simp only [List.getD_cons_zero, List.getD_cons_succ] at H2
  replace H2 := hide H2
  have H3 := congrArg (fun l => List.getD l 3 default) hl.symm
  simp only [List.getD_cons_zero, List.getD_cons_succ] at H3
  replace H3 := hide H3
  have H4 := congrArg (fun l => List.getD l 4 default) hl.symm
  simp only [List.getD_cons_zero, List.getD_cons_succ] at H4
  replace H4 := hide H4
  have H5 := congrArg (fun l => List.getD l 5 default) hl.symm
  simp only [List.getD_cons_zero, List.getD_cons_succ] at H5
  replace H5 := hide H5
  have H6 := congrArg (fun l => List.getD l 6 default) hl.symm
  simp only [List.getD_cons_zero, List.getD_cons_succ] at H6
  replace H6 := hide H6
  have H7 := congrArg (fun l => List.getD l 7 default) hl.symm
  simp only [List.getD_cons_zero, List.getD_cons_succ] at H7
  replace H7 := hide H7
  have H8 := congrArg (fun l => List.getD l 8 default) hl.symm
  simp only [List.getD_cons_zero, List.getD_cons_succ] at H8
  replace H8 := hide H8
  have H9 := congrArg (fun l => List.getD l 9 default) hl.symm
  simp only [List.getD_cons_zero, List.getD_cons_succ] at H9
  replace H9 := hide H9
  have H10 := congrArg (fun l => List.getD l 10 default) hl.symm
  simp only [List.getD_cons_zero, List.getD_cons_succ] at H10
  replace H10 := hide H10
  have H11 := congrArg (fun l => List.getD l 11 default) hl.symm
  simp only [List.getD_cons_zero, List.getD_cons_succ] at H11
  replace H11 := hide H11
  have H12 := congrArg (fun l => List.getD l 12 default) hl.symm
  simp only [List.getD_cons_zero, List.getD_cons_succ] at H12
  replace H12 := hide H12
  have H13 := congrArg (fun l => List.getD l 13 default) hl.symm
  simp only [List.getD_cons_zero, List.getD_cons_succ] at H13
  replace H13 := hide H13
  have H14 := congrArg (fun l => List.getD l 14 default) hl.symm
  simp only [List.getD_cons_zero, List.getD_cons_succ] at H14
  replace H14 := hide H14
  have H15 := congrArg (fun l => List.getD l 15 default) hl.symm
  simp only [List.getD_cons_zero, List.getD_cons_succ] at H15
  replace H15 := hide H15
  have H16 := congrArg (fun l => List.getD l 16 default) hl.symm
  simp only [List.getD_cons_zero, List.getD_cons_succ] at H16
  replace H16 := hide H16
  have H17 := congrArg (fun l => List.getD l 17 default) hl.symm
  simp only [List.getD_cons_zero, List.getD_cons_succ] at H17
  replace H17 := hide H17
  have H18 := congrArg (fun l => List.getD l 18 default) hl.symm
  simp only [List.getD_cons_zero, List.getD_cons_succ] at H18
  replace H18 := hide H18
  have H19 := congrArg (fun l => List.getD l 19 default) hl.symm
  simp only [List.getD_cons_zero, List.getD_cons_succ] at H19
  replace H19 := hide H19
  have H20 := congrArg (fun l => List.getD l 20 default) hl.symm
  simp only [List.getD_cons_zero, List.getD_cons_succ] at H20
  replace H20 := hide H20
  have H21 := congrArg (fun l => List.getD l 21 default) hl.symm
  simp only [List.getD_cons_zero, List.getD_cons_succ] at H21
  replace H21 := hide H21
  have H22 := congrArg (fun l => List.getD l 22 default) hl.symm
  simp only [List.getD_cons_zero, List.getD_cons_succ] at H22
  replace H22 := hide H22
  have H23 := congrArg (fun l => List.getD l 23 default) hl.symm
  simp only [List.getD_cons_zero, List.getD_cons_succ] at H23
  replace H23 := hide H23
  have H24 := congrArg (fun l => List.getD l 24 default) hl.symm
  simp only [List.getD_cons_zero, List.getD_cons_succ] at H24
  replace H24 := hide H24
  have H25 := congrArg (fun l => List.getD l 25 default) hl.symm
  simp only [List.getD_cons_zero, List.getD_cons_succ] at H25
  replace H25 := hide H25
  have H26 := congrArg (fun l => List.getD l 26 default) hl.symm
  simp only [List.getD_cons_zero, List.getD_cons_succ] at H26
  replace H26 := hide H26
  have H27 := congrArg (fun l => List.getD l 27 default) hl.symm
  simp only [List.getD_cons_zero, List.getD_cons_succ] at H27
  replace H27 := hide H27
  clear hl
  refine Rk.tree_quiet (v := ?_) H0.out rfl (fun w' hS => ?_) ⟨q3, q5⟩ ?_; rotate_left; (obtain ⟨s3, s5⟩ := hS; go_simp; with_reducible rfl); simp only [Act.put, List.setIfInBounds_toArray, List.set_cons_succ, List.set_cons_zero]
  refine Rk.tree_quiet (v := ?_) H1.out rfl (fun w' hS => ?_) ⟨q3, q5⟩ ?_; rotate_left; (obtain ⟨s3, s5⟩ := hS; go_simp; with_reducible rfl); simp only [Act.put, List.setIfInBounds_toArray, List.set_cons_succ, List.set_cons_zero]
  refine Rk.tree_quiet (v := ?_) H2.out rfl (fun w' hS => ?_) ⟨q3, q5⟩ ?_; rotate_left; (obtain ⟨s3, s5⟩ := hS; go_simp; with_reducible rfl); simp only [Act.put, List.setIfInBounds_toArray, List.set_cons_succ, List.set_cons_zero]
  refine Rk.tree_quiet (v := ?_) H3.out rfl (fun w' hS => ?_) ⟨q3, q5⟩ ?_; rotate_left; (obtain ⟨s3, s5⟩ := hS; go_simp; with_reducible rfl); simp only [Act.put, List.setIfInBounds_toArray, List.set_cons_succ, List.set_cons_zero]
  refine Rk.tree_quiet (v := ?_) H5.out rfl (fun w' hS => ?_) ⟨q3, q5⟩ ?_; rotate_left; (obtain ⟨s3, s5⟩ := hS; go_simp; with_reducible rfl); simp only [Act.put, List.setIfInBounds_toArray, List.set_cons_succ, List.set_cons_zero]
  refine Rk.tree_quiet (v := ?_) H6.out rfl (fun w' hS => ?_) ⟨q3, q5⟩ ?_; rotate_left; (obtain ⟨s3, s5⟩ := hS; go_simp; with_reducible rfl); simp only [Act.put, List.setIfInBounds_toArray, List.set_cons_succ, List.set_cons_zero]
  refine Rk.tree_quiet (v := ?_) H7.out rfl (fun w' hS => ?_) ⟨q3, q5⟩ ?_; rotate_left; (obtain ⟨s3, s5⟩ := hS; go_simp; with_reducible rfl); simp only [Act.put, List.setIfInBounds_toArray, List.set_cons_succ, List.set_cons_zero]
  refine Rk.tree_quiet (v := ?_) H8.out rfl (fun w' hS => ?_) ⟨q3, q5⟩ ?_; rotate_left; (obtain ⟨s3, s5⟩ := hS; go_simp; with_reducible rfl); simp only [Act.put, List.setIfInBounds_toArray, List.set_cons_succ, List.set_cons_zero]
  refine Rk.tree_quiet (v := ?_) H9.out rfl (fun w' hS => ?_) ⟨q3, q5⟩ ?_; rotate_left; (obtain ⟨s3, s5⟩ := hS; go_simp; with_reducible rfl); simp only [Act.put, List.setIfInBounds_toArray, List.set_cons_succ, List.set_cons_zero]
  refine Rk.tree_quiet (v := ?_) H10.out rfl (fun w' hS => ?_) ⟨q3, q5⟩ ?_; rotate_left; (obtain ⟨s3, s5⟩ := hS; go_simp; with_reducible rfl); simp only [Act.put, List.setIfInBounds_toArray, List.set_cons_succ, List.set_cons_zero]
  refine Rk.tree_quiet (v := ?_) H11.out rfl (fun w' hS => ?_) ⟨q3, q5⟩ ?_; rotate_left; (obtain ⟨s3, s5⟩ := hS; go_simp; with_reducible rfl); simp only [Act.put, List.setIfInBounds_toArray, List.set_cons_succ, List.set_cons_zero]
  refine Rk.tree_quiet (v := ?_) H12.out rfl (fun w' hS => ?_) ⟨q3, q5⟩ ?_; rotate_left; (obtain ⟨s3, s5⟩ := hS; go_simp; with_reducible rfl); simp only [Act.put, List.setIfInBounds_toArray, List.set_cons_succ, List.set_cons_zero]
  refine Rk.tree_quiet (v := ?_) H13.out rfl (fun w' hS => ?_) ⟨q3, q5⟩ ?_; rotate_left; (obtain ⟨s3, s5⟩ := hS; go_simp; with_reducible rfl); simp only [Act.put, List.setIfInBounds_toArray, List.set_cons_succ, List.set_cons_zero]
  refine Rk.tree_quiet (v := ?_) H15.out rfl (fun w' hS => ?_) ⟨q3, q5⟩ ?_; rotate_left; (obtain ⟨s3, s5⟩ := hS; go_simp; with_reducible rfl); simp only [Act.put, List.setIfInBounds_toArray, List.set_cons_succ, List.set_cons_zero]
  refine Rk.tree_quiet (v := ?_) H16.out rfl (fun w' hS => ?_) ⟨q3, q5⟩ ?_; rotate_left; (obtain ⟨s3, s5⟩ := hS; go_simp; with_reducible rfl); simp only [Act.put, List.setIfInBounds_toArray, List.set_cons_succ, List.set_cons_zero]
  refine Rk.tree_quiet (v := ?_) H17.out rfl (fun w' hS => ?_) ⟨q3, q5⟩ ?_; rotate_left; (obtain ⟨s3, s5⟩ := hS; go_simp; with_reducible rfl); simp only [Act.put, List.setIfInBounds_toArray, List.set_cons_succ, List.set_cons_zero]
  refine Rk.tree_quiet (v := ?_) H18.out rfl (fun w' hS => ?_) ⟨q3, q5⟩ ?_; rotate_left; (obtain ⟨s3, s5⟩ := hS; go_simp; with_reducible rfl); simp only [Act.put, List.setIfInBounds_toArray, List.set_cons_succ, List.set_cons_zero]
  refine Rk.tree_quiet (v := ?_) H19.out rfl (fun w' hS => ?_) ⟨q3, q5⟩ ?_; rotate_left; (obtain ⟨s3, s5⟩ := hS; go_simp; with_reducible rfl); simp only [Act.put, List.setIfInBounds_toArray, List.set_cons_succ, List.set_cons_zero]
  refine Rk.tree_quiet (v := ?_) H20.out rfl (fun w' hS => ?_) ⟨q3, q5⟩ ?_; rotate_left; (obtain ⟨s3, s5⟩ := hS; go_simp; with_reducible rfl); simp only [Act.put, List.setIfInBounds_toArray, List.set_cons_succ, List.set_cons_zero]
  refine Rk.tree_quiet (v := ?_) H21.out rfl (fun w' hS => ?_) ⟨q3, q5⟩ ?_; rotate_left; (obtain ⟨s3, s5⟩ := hS; go_simp; with_reducible rfl); simp only [Act.put, List.setIfInBounds_toArray, List.set_cons_succ, List.set_cons_zero]
  refine Rk.tree_quiet (v := ?_) H22.out rfl (fun w' hS => ?_) ⟨q3, q5⟩ ?_; rotate_left; (obtain ⟨s3, s5⟩ := hS; go_simp; with_reducible rfl); simp only [Act.put, List.setIfInBounds_toArray, List.set_cons_succ, List.set_cons_zero]
  refine Rk.tree_quiet (v := ?_) H23.out rfl (fun w' hS => ?_) ⟨q3, q5⟩ ?_; rotate_left; (obtain ⟨s3, s5⟩ := hS; go_simp; with_reducible rfl); simp only [Act.put, List.setIfInBounds_toArray, List.set_cons_succ, List.set_cons_zero]
  obtain ⟨w0, hw0'⟩ : ∃ w0, w0 = w.drew := ⟨_, rfl⟩
  rw [← hw0'] at HB0 ⊢
  clear hw0'
  refine Rk.tree_fork H4.out rfl H26.out rfl (fun K hK => ?_) (fun K hK => ?_)
  · go_simp
    refine (rnext_any g 0 x many _ (agree c1 HB0.out)).mono ?_
    rintro y w1 ⟨rfl, hb⟩
    have HB1 := hide (HB0.out.trans (hb.mono HB0.out.size))
    refine hK _ _ (fun _ => ⟨agree q3 HB1.out, agree q5 HB1.out⟩) ?_
    clear hK K hb
    refine Rk.tree_fork H14.out rfl H26.out rfl (fun K hK => ?_) (fun K hK => ?_)
    · go_simp
      refine (rnext_any g 2 y (many + m0) _ (agree c3 HB1.out)).mono ?_
      rintro y w2 ⟨rfl, hb⟩
      have HB2 := hide (HB1.out.trans (hb.mono HB1.out.size))
      refine hK _ _ (fun _ => ⟨agree q3 HB2.out, agree q5 HB2.out⟩) ?_
      clear hK K hb
      refine Rk.tree_fork H24.out rfl H26.out rfl (fun K hK => ?_) (fun K hK => ?_)
      · go_simp
        refine (rnext_any g 4 z (many + m1) _ (agree c5 HB2.out)).mono ?_
        rintro y w3 ⟨rfl, hb⟩
        have HB3 := hide (HB2.out.trans (hb.mono HB2.out.size))
        refine hK _ _ (fun _ => ⟨agree q3 HB3.out, agree q5 HB3.out⟩) ?_
        clear hK K hb
        refine Rk.tree_quiet (v := ?_) H25.out rfl (fun w' hS => ?_) ⟨agree q3 HB3.out, agree q5 HB3.out⟩ ?_; rotate_left; (obtain ⟨s3, s5⟩ := hS; go_simp; with_reducible rfl); simp only [Act.put, List.setIfInBounds_toArray, List.set_cons_succ, List.set_cons_zero]
        refine Rk.tree_one H26.out rfl (fun K hK => ?_)
        go_simp
        have HB4 := hide (HB3.out.alloc HB3.out.size (.cells #[.int .i64 0, .int .i64 0, .int .i64 0, .int .i64 0, .int .i64 0, .int .i64 0, .int .i64 0] tR))
        have HR4 := hide (Row.fresh w3 tR #[.int .i64 0, .int .i64 0, .int .i64 0, .int .i64 0, .int .i64 0, .int .i64 0, .int .i64 0])
        have hqw : w.heap.size ≤ w3.heap.size := HB3.out.size
        obtain ⟨q, hq⟩ : ∃ q, q = w3.heap.size := ⟨_, rfl⟩
        obtain ⟨w4, hw'⟩ : ∃ w', w' = w3.alloc (.cells #[.int .i64 0, .int .i64 0, .int .i64 0, .int .i64 0, .int .i64 0, .int .i64 0, .int .i64 0] tR) := ⟨_, rfl⟩
        rw [← hw'] at HB4 HR4 ⊢
        rw [← hq] at HR4 hqw ⊢
        clear hw' hq
        refine hK _ _ (fun _ => ⟨agree q3 HB4.out, agree q5 HB4.out⟩) ?_
        clear hK K
        refine Rk.tree_one H27.out rfl (fun K hK => ?_)
        have r0 := HR4.out.cell 0
        have f0 := HR4.out.free 0
        have r1 := HR4.out.cell 1
        have f1 := HR4.out.free 1
        have r2 := HR4.out.cell 2
        have f2 := HR4.out.free 2
        have r3 := HR4.out.cell 3
        have f3 := HR4.out.free 3
        have r4 := HR4.out.cell 4
        have f4 := HR4.out.free 4
        have r5 := HR4.out.cell 5
        have f5 := HR4.out.free 5
        have r6 := HR4.out.cell 6
        have f6 := HR4.out.free 6
        simp only [List.getElem?_cons_zero, List.getElem?_cons_succ] at r0 r1 r2 r3 r4 r5 r6
        go_simp
        have hrow : Row (((((((w4.setCell ⟨q, 0, none⟩ (.int .i64 0)).setCell ⟨q, 1, none⟩ (.int .i64 x)).setCell ⟨q, 2, none⟩ (.int .i64 many)).setCell ⟨q, 3, none⟩ (.int .i64 y)).setCell ⟨q, 4, none⟩ (.int .i64 (many + m0))).setCell ⟨q, 5, none⟩ (.int .i64 z)).setCell ⟨q, 6, none⟩ (.int .i64 (many + m1))) q tR (rgC ⟨0, x, many, y, many + m0, z, many + m1⟩) := (((((((HR4.out.put 0 (.int .i64 0)).put 1 (.int .i64 x)).put 2 (.int .i64 many)).put 3 (.int .i64 y)).put 4 (.int .i64 (many + m0))).put 5 (.int .i64 z)).put 6 (.int .i64 (many + m1)))
        have hbel : Below w.heap.size w (((((((w4.setCell ⟨q, 0, none⟩ (.int .i64 0)).setCell ⟨q, 1, none⟩ (.int .i64 x)).setCell ⟨q, 2, none⟩ (.int .i64 many)).setCell ⟨q, 3, none⟩ (.int .i64 y)).setCell ⟨q, 4, none⟩ (.int .i64 (many + m0))).setCell ⟨q, 5, none⟩ (.int .i64 z)).setCell ⟨q, 6, none⟩ (.int .i64 (many + m1))) := (below_put (below_put (below_put (below_put (below_put (below_put (below_put HB4.out (g := q) (i := 0) hqw (.int .i64 0)) (g := q) (i := 1) hqw (.int .i64 x)) (g := q) (i := 2) hqw (.int .i64 many)) (g := q) (i := 3) hqw (.int .i64 y)) (g := q) (i := 4) hqw (.int .i64 (many + m0))) (g := q) (i := 5) hqw (.int .i64 z)) (g := q) (i := 6) hqw (.int .i64 (many + m1)))
        obtain ⟨wf, hwf⟩ : ∃ wf, wf = (((((((w4.setCell ⟨q, 0, none⟩ (.int .i64 0)).setCell ⟨q, 1, none⟩ (.int .i64 x)).setCell ⟨q, 2, none⟩ (.int .i64 many)).setCell ⟨q, 3, none⟩ (.int .i64 y)).setCell ⟨q, 4, none⟩ (.int .i64 (many + m0))).setCell ⟨q, 5, none⟩ (.int .i64 z)).setCell ⟨q, 6, none⟩ (.int .i64 (many + m1))) := ⟨_, rfl⟩
        rw [← hwf] at hrow hbel ⊢
        refine hK _ _ (fun _ => ⟨agree q3 hbel, agree q5 hbel⟩) (Rd.tree_leaf ?_)
        exact HF.out q _ _ _ _ _ _ _ _ _ _ _ _ _ _ _ _ _ _ _ _ _ _ _ _ _ _ wf hqw hrow hbel
      · go_simp
        have HB3 := hide (HB2.out.alloc HB2.out.size (.cells #[.int .i64 0, .int .i64 0, .int .i64 0, .int .i64 0, .int .i64 0, .int .i64 0, .int .i64 0] tR))
        have HR3 := hide (Row.fresh w2 tR #[.int .i64 0, .int .i64 0, .int .i64 0, .int .i64 0, .int .i64 0, .int .i64 0, .int .i64 0])
        have hqw : w.heap.size ≤ w2.heap.size := HB2.out.size
        obtain ⟨q, hq⟩ : ∃ q, q = w2.heap.size := ⟨_, rfl⟩
        obtain ⟨w3, hw'⟩ : ∃ w', w' = w2.alloc (.cells #[.int .i64 0, .int .i64 0, .int .i64 0, .int .i64 0, .int .i64 0, .int .i64 0, .int .i64 0] tR) := ⟨_, rfl⟩
        rw [← hw'] at HB3 HR3 ⊢
        rw [← hq] at HR3 hqw ⊢
        clear hw' hq
        refine hK _ _ (fun _ => ⟨agree q3 HB3.out, agree q5 HB3.out⟩) ?_
        clear hK K
        refine Rk.tree_one H24.out rfl (fun K hK => ?_)
        go_simp
        refine (rnext_any g 4 z (many + m1) _ (agree c5 HB3.out)).mono ?_
        rintro y w4 ⟨rfl, hb⟩
        have HB4 := hide (HB3.out.trans (hb.mono HB3.out.size))
        have HR4 := hide (HR3.out.below hb HR3.out.lt)
        refine hK _ _ (fun _ => ⟨agree q3 HB4.out, agree q5 HB4.out⟩) ?_
        clear hK K hb
        refine Rk.tree_quiet (v := ?_) H25.out rfl (fun w' hS => ?_) ⟨agree q3 HB4.out, agree q5 HB4.out⟩ ?_; rotate_left; (obtain ⟨s3, s5⟩ := hS; go_simp; with_reducible rfl); simp only [Act.put, List.setIfInBounds_toArray, List.set_cons_succ, List.set_cons_zero]
        refine Rk.tree_one H27.out rfl (fun K hK => ?_)
        have r0 := HR4.out.cell 0
        have f0 := HR4.out.free 0
        have r1 := HR4.out.cell 1
        have f1 := HR4.out.free 1
        have r2 := HR4.out.cell 2
        have f2 := HR4.out.free 2
        have r3 := HR4.out.cell 3
        have f3 := HR4.out.free 3
        have r4 := HR4.out.cell 4
        have f4 := HR4.out.free 4
        have r5 := HR4.out.cell 5
        have f5 := HR4.out.free 5
        have r6 := HR4.out.cell 6
        have f6 := HR4.out.free 6
        simp only [List.getElem?_cons_zero, List.getElem?_cons_succ] at r0 r1 r2 r3 r4 r5 r6
        go_simp
        have hrow : Row (((((((w4.setCell ⟨q, 0, none⟩ (.int .i64 0)).setCell ⟨q, 1, none⟩ (.int .i64 x)).setCell ⟨q, 2, none⟩ (.int .i64 many)).setCell ⟨q, 3, none⟩ (.int .i64 y)).setCell ⟨q, 4, none⟩ (.int .i64 (many + m0))).setCell ⟨q, 5, none⟩ (.int .i64 z)).setCell ⟨q, 6, none⟩ (.int .i64 (many + m1))) q tR (rgC ⟨0, x, many, y, many + m0, z, many + m1⟩) := (((((((HR4.out.put 0 (.int .i64 0)).put 1 (.int .i64 x)).put 2 (.int .i64 many)).put 3 (.int .i64 y)).put 4 (.int .i64 (many + m0))).put 5 (.int .i64 z)).put 6 (.int .i64 (many + m1)))
        have hbel : Below w.heap.size w (((((((w4.setCell ⟨q, 0, none⟩ (.int .i64 0)).setCell ⟨q, 1, none⟩ (.int .i64 x)).setCell ⟨q, 2, none⟩ (.int .i64 many)).setCell ⟨q, 3, none⟩ (.int .i64 y)).setCell ⟨q, 4, none⟩ (.int .i64 (many + m0))).setCell ⟨q, 5, none⟩ (.int .i64 z)).setCell ⟨q, 6, none⟩ (.int .i64 (many + m1))) := (below_put (below_put (below_put (below_put (below_put (below_put (below_put HB4.out (g := q) (i := 0) hqw (.int .i64 0)) (g := q) (i := 1) hqw (.int .i64 x)) (g := q) (i := 2) hqw (.int .i64 many)) (g := q) (i := 3) hqw (.int .i64 y)) (g := q) (i := 4) hqw (.int .i64 (many + m0))) (g := q) (i := 5) hqw (.int .i64 z)) (g := q) (i := 6) hqw (.int .i64 (many + m1)))
        obtain ⟨wf, hwf⟩ : ∃ wf, wf = (((((((w4.setCell ⟨q, 0, none⟩ (.int .i64 0)).setCell ⟨q, 1, none⟩ (.int .i64 x)).setCell ⟨q, 2, none⟩ (.int .i64 many)).setCell ⟨q, 3, none⟩ (.int .i64 y)).setCell ⟨q, 4, none⟩ (.int .i64 (many + m0))).setCell ⟨q, 5, none⟩ (.int .i64 z)).setCell ⟨q, 6, none⟩ (.int .i64 (many + m1))) := ⟨_, rfl⟩
        rw [← hwf] at hrow hbel ⊢
        refine hK _ _ (fun _ => ⟨agree q3 hbel, agree q5 hbel⟩) (Rd.tree_leaf ?_)
        exact HF.out q _ _ _ _ _ _ _ _ _ _ _ _ _ _ _ _ _ _ _ _ _ _ _ _ _ _ wf hqw hrow hbel
    · go_simp
      have HB2 := hide (HB1.out.alloc HB1.out.size (.cells #[.int .i64 0, .int .i64 0, .int .i64 0, .int .i64 0, .int .i64 0, .int .i64 0, .int .i64 0] tR))
      have HR2 := hide (Row.fresh w1 tR #[.int .i64 0, .int .i64 0, .int .i64 0, .int .i64 0, .int .i64 0, .int .i64 0, .int .i64 0])
      have hqw : w.heap.size ≤ w1.heap.size := HB1.out.size
      obtain ⟨q, hq⟩ : ∃ q, q = w1.heap.size := ⟨_, rfl⟩
      obtain ⟨w2, hw'⟩ : ∃ w', w' = w1.alloc (.cells #[.int .i64 0, .int .i64 0, .int .i64 0, .int .i64 0, .int .i64 0, .int .i64 0, .int .i64 0] tR) := ⟨_, rfl⟩
      rw [← hw'] at HB2 HR2 ⊢
      rw [← hq] at HR2 hqw ⊢
      clear hw' hq
      refine hK _ _ (fun _ => ⟨agree q3 HB2.out, agree q5 HB2.out⟩) ?_
      clear hK K
      refine Rk.tree_one H14.out rfl (fun K hK => ?_)
      go_simp
      refine (rnext_any g 2 y (many + m0) _ (agree c3 HB2.out)).mono ?_
      rintro y w3 ⟨rfl, hb⟩
      have HB3 := hide (HB2.out.trans (hb.mono HB2.out.size))
      have HR3 := hide (HR2.out.below hb HR2.out.lt)
      refine hK _ _ (fun _ => ⟨agree q3 HB3.out, agree q5 HB3.out⟩) ?_
      clear hK K hb
      refine Rk.tree_one H24.out rfl (fun K hK => ?_)
      go_simp
      refine (rnext_any g 4 z (many + m1) _ (agree c5 HB3.out)).mono ?_
      rintro y w4 ⟨rfl, hb⟩
      have HB4 := hide (HB3.out.trans (hb.mono HB3.out.size))
      have HR4 := hide (HR3.out.below hb HR3.out.lt)
      refine hK _ _ (fun _ => ⟨agree q3 HB4.out, agree q5 HB4.out⟩) ?_
      clear hK K hb
      refine Rk.tree_quiet (v := ?_) H25.out rfl (fun w' hS => ?_) ⟨agree q3 HB4.out, agree q5 HB4.out⟩ ?_; rotate_left; (obtain ⟨s3, s5⟩ := hS; go_simp; with_reducible rfl); simp only [Act.put, List.setIfInBounds_toArray, List.set_cons_succ, List.set_cons_zero]
      refine Rk.tree_one H27.out rfl (fun K hK => ?_)
      have r0 := HR4.out.cell 0
      have f0 := HR4.out.free 0
      have r1 := HR4.out.cell 1
      have f1 := HR4.out.free 1
      have r2 := HR4.out.cell 2
      have f2 := HR4.out.free 2
      have r3 := HR4.out.cell 3
      have f3 := HR4.out.free 3
      have r4 := HR4.out.cell 4
      have f4 := HR4.out.free 4
      have r5 := HR4.out.cell 5
      have f5 := HR4.out.free 5
      have r6 := HR4.out.cell 6
      have f6 := HR4.out.free 6
      simp only [List.getElem?_cons_zero, List.getElem?_cons_succ] at r0 r1 r2 r3 r4 r5 r6
      go_simp
      have hrow : Row (((((((w4.setCell ⟨q, 0, none⟩ (.int .i64 0)).setCell ⟨q, 1, none⟩ (.int .i64 x)).setCell ⟨q, 2, none⟩ (.int .i64 many)).setCell ⟨q, 3, none⟩ (.int .i64 y)).setCell ⟨q, 4, none⟩ (.int .i64 (many + m0))).setCell ⟨q, 5, none⟩ (.int .i64 z)).setCell ⟨q, 6, none⟩ (.int .i64 (many + m1))) q tR (rgC ⟨0, x, many, y, many + m0, z, many + m1⟩) := (((((((HR4.out.put 0 (.int .i64 0)).put 1 (.int .i64 x)).put 2 (.int .i64 many)).put 3 (.int .i64 y)).put 4 (.int .i64 (many + m0))).put 5 (.int .i64 z)).put 6 (.int .i64 (many + m1)))
      have hbel : Below w.heap.size w (((((((w4.setCell ⟨q, 0, none⟩ (.int .i64 0)).setCell ⟨q, 1, none⟩ (.int .i64 x)).setCell ⟨q, 2, none⟩ (.int .i64 many)).setCell ⟨q, 3, none⟩ (.int .i64 y)).setCell ⟨q, 4, none⟩ (.int .i64 (many + m0))).setCell ⟨q, 5, none⟩ (.int .i64 z)).setCell ⟨q, 6, none⟩ (.int .i64 (many + m1))) := (below_put (below_put (below_put (below_put (below_put (below_put (below_put HB4.out (g := q) (i := 0) hqw (.int .i64 0)) (g := q) (i := 1) hqw (.int .i64 x)) (g := q) (i := 2) hqw (.int .i64 many)) (g := q) (i := 3) hqw (.int .i64 y)) (g := q) (i := 4) hqw (.int .i64 (many + m0))) (g := q) (i := 5) hqw (.int .i64 z)) (g := q) (i := 6) hqw (.int .i64 (many + m1)))
      obtain ⟨wf, hwf⟩ : ∃ wf, wf = (((((((w4.setCell ⟨q, 0, none⟩ (.int .i64 0)).setCell ⟨q, 1, none⟩ (.int .i64 x)).setCell ⟨q, 2, none⟩ (.int .i64 many)).setCell ⟨q, 3, none⟩ (.int .i64 y)).setCell ⟨q, 4, none⟩ (.int .i64 (many + m0))).setCell ⟨q, 5, none⟩ (.int .i64 z)).setCell ⟨q, 6, none⟩ (.int .i64 (many + m1))) := ⟨_, rfl⟩
      rw [← hwf] at hrow hbel ⊢
      refine hK _ _ (fun _ => ⟨agree q3 hbel, agree q5 hbel⟩) (Rd.tree_leaf ?_)
      exact HF.out q _ _ _ _ _ _ _ _ _ _ _ _ _ _ _ _ _ _ _ _ _ _ _ _ _ _ wf hqw hrow hbel
  · go_simp
    have HB1 := hide (HB0.out.alloc HB0.out.size (.cells #[.int .i64 0, .int .i64 0, .int .i64 0, .int .i64 0, .int .i64 0, .int .i64 0, .int .i64 0] tR))
    have HR1 := hide (Row.fresh w0 tR #[.int .i64 0, .int .i64 0, .int .i64 0, .int .i64 0, .int .i64 0, .int .i64 0, .int .i64 0])
    have hqw : w.heap.size ≤ w0.heap.size := HB0.out.size
    obtain ⟨q, hq⟩ : ∃ q, q = w0.heap.size := ⟨_, rfl⟩
    obtain ⟨w1, hw'⟩ : ∃ w', w' = w0.alloc (.cells #[.int .i64 0, .int .i64 0, .int .i64 0, .int .i64 0, .int .i64 0, .int .i64 0, .int .i64 0] tR) := ⟨_, rfl⟩
    rw [← hw'] at HB1 HR1 ⊢
    rw [← hq] at HR1 hqw ⊢
    clear hw' hq
    refine hK _ _ (fun _ => ⟨agree q3 HB1.out, agree q5 HB1.out⟩) ?_
    clear hK K
    refine Rk.tree_one H4.out rfl (fun K hK => ?_)
    go_simp
    refine (rnext_any g 0 x many _ (agree c1 HB1.out)).mono ?_
    rintro y w2 ⟨rfl, hb⟩
    have HB2 := hide (HB1.out.trans (hb.mono HB1.out.size))
    have HR2 := hide (HR1.out.below hb HR1.out.lt)
    refine hK _ _ (fun _ => ⟨agree q3 HB2.out, agree q5 HB2.out⟩) ?_
    clear hK K hb
    refine Rk.tree_one H14.out rfl (fun K hK => ?_)
    go_simp
    refine (rnext_any g 2 y (many + m0) _ (agree c3 HB2.out)).mono ?_
    rintro y w3 ⟨rfl, hb⟩
    have HB3 := hide (HB2.out.trans (hb.mono HB2.out.size))
    have HR3 := hide (HR2.out.below hb HR2.out.lt)
    refine hK _ _ (fun _ => ⟨agree q3 HB3.out, agree q5 HB3.out⟩) ?_
    clear hK K hb
    refine Rk.tree_one H24.out rfl (fun K hK => ?_)
    go_simp
    refine (rnext_any g 4 z (many + m1) _ (agree c5 HB3.out)).mono ?_
    rintro y w4 ⟨rfl, hb⟩
    have HB4 := hide (HB3.out.trans (hb.mono HB3.out.size))
    have HR4 := hide (HR3.out.below hb HR3.out.lt)
    refine hK _ _ (fun _ => ⟨agree q3 HB4.out, agree q5 HB4.out⟩) ?_
    clear hK K hb
    refine Rk.tree_quiet (v := ?_) H25.out rfl (fun w' hS => ?_) ⟨agree q3 HB4.out, agree q5 HB4.out⟩ ?_; rotate_left; (obtain ⟨s3, s5⟩ := hS; go_simp; with_reducible rfl); simp only [Act.put, List.setIfInBounds_toArray, List.set_cons_succ, List.set_cons_zero]
    refine Rk.tree_one H27.out rfl (fun K hK => ?_)
    have r0 := HR4.out.cell 0
    have f0 := HR4.out.free 0
    have r1 := HR4.out.cell 1
    have f1 := HR4.out.free 1
    have r2 := HR4.out.cell 2
    have f2 := HR4.out.free 2
    have r3 := HR4.out.cell 3
    have f3 := HR4.out.free 3
    have r4 := HR4.out.cell 4
    have f4 := HR4.out.free 4
    have r5 := HR4.out.cell 5
    have f5 := HR4.out.free 5
    have r6 := HR4.out.cell 6
    have f6 := HR4.out.free 6
    simp only [List.getElem?_cons_zero, List.getElem?_cons_succ] at r0 r1 r2 r3 r4 r5 r6
    go_simp
    have hrow : Row (((((((w4.setCell ⟨q, 0, none⟩ (.int .i64 0)).setCell ⟨q, 1, none⟩ (.int .i64 x)).setCell ⟨q, 2, none⟩ (.int .i64 many)).setCell ⟨q, 3, none⟩ (.int .i64 y)).setCell ⟨q, 4, none⟩ (.int .i64 (many + m0))).setCell ⟨q, 5, none⟩ (.int .i64 z)).setCell ⟨q, 6, none⟩ (.int .i64 (many + m1))) q tR (rgC ⟨0, x, many, y, many + m0, z, many + m1⟩) := (((((((HR4.out.put 0 (.int .i64 0)).put 1 (.int .i64 x)).put 2 (.int .i64 many)).put 3 (.int .i64 y)).put 4 (.int .i64 (many + m0))).put 5 (.int .i64 z)).put 6 (.int .i64 (many + m1)))
    have hbel : Below w.heap.size w (((((((w4.setCell ⟨q, 0, none⟩ (.int .i64 0)).setCell ⟨q, 1, none⟩ (.int .i64 x)).setCell ⟨q, 2, none⟩ (.int .i64 many)).setCell ⟨q, 3, none⟩ (.int .i64 y)).setCell ⟨q, 4, none⟩ (.int .i64 (many + m0))).setCell ⟨q, 5, none⟩ (.int .i64 z)).setCell ⟨q, 6, none⟩ (.int .i64 (many + m1))) := (below_put (below_put (below_put (below_put (below_put (below_put (below_put HB4.out (g := q) (i := 0) hqw (.int .i64 0)) (g := q) (i := 1) hqw (.int .i64 x)) (g := q) (i := 2) hqw (.int .i64 many)) (g := q) (i := 3) hqw (.int .i64 y)) (g := q) (i := 4) hqw (.int .i64 (many + m0))) (g := q) (i := 5) hqw (.int .i64 z)) (g := q) (i := 6) hqw (.int .i64 (many + m1)))
    obtain ⟨wf, hwf⟩ : ∃ wf, wf = (((((((w4.setCell ⟨q, 0, none⟩ (.int .i64 0)).setCell ⟨q, 1, none⟩ (.int .i64 x)).setCell ⟨q, 2, none⟩ (.int .i64 many)).setCell ⟨q, 3, none⟩ (.int .i64 y)).setCell ⟨q, 4, none⟩ (.int .i64 (many + m0))).setCell ⟨q, 5, none⟩ (.int .i64 z)).setCell ⟨q, 6, none⟩ (.int .i64 (many + m1))) := ⟨_, rfl⟩
    rw [← hwf] at hrow hbel ⊢
    refine hK _ _ (fun _ => ⟨agree q3 hbel, agree q5 hbel⟩) (Rd.tree_leaf ?_)
    exact HF.out q _ _ _ _ _ _ _ _ _ _ _ _ _ _ _ _ _ _ _ _ _ _ _ _ _ _ wf hqw hrow hbel
end Go.Proofs.Ytghnieddokhagaa.Al
