/-
  Slices of numbers, and of texts, that came in.
-/
import Derived.Test.YtahcokfoifdlmaaGreatDoorLaw
import Derived.Test.YtahcokfoifdlmaaGreatDoorQWA
import Derived.Test.YtahcokfoifdlmaaGreatDoorProg
import Derived.IntWalk
import Derived.Lib.Strings
import Derived.BigQuiet
import Derived.Test.YtahcokfoifdlmaaGreatDoorQWI
import Derived.Deep.Slices
import Derived.Deep.Fields
import Derived.Deep.Strs
import Derived.Lib.SmallJoins
import Derived.Laws.StructEq
import Derived.Test.YtahcokfoifdlmaaGreatDoorKit
namespace Go.Proofs.YtahcokfoifdlmaaGreatDoor.Lw
open Go Go.RowKit Go.WideShapes Go.ChangeShapes Go.ChangeAt Go.ChangeMaps Kt

/-- the slice '.slice A n c' reads as these values, which lie in a block of which P holds -/
def Vs (w : World) (P : Nat → Prop) (A : Option Addr) (c : Nat) (vs : List Value) : Prop :=
  vs.length ≤ c ∧ (0 < vs.length → ∃ b o, A = some ⟨b, o, none⟩ ∧ P b ∧ ∀ j v, vs[j]? = some v → w.cell? ⟨b, o + j, none⟩ = some v)
theorem Vs.move {w w' : World} {P : Nat → Prop} {A : Option Addr} {c : Nat} {vs : List Value} (h : Vs w P A c vs) (hk : ∀ b, P b → b < w.heap.size → w'.heap[b]? = w.heap[b]?) : Vs w' P A c vs :=
  ⟨h.1, fun hn => by
    obtain ⟨b, o, rfl, hp, hc⟩ := h.2 hn
    refine ⟨b, o, rfl, hp, fun j v hj => ?_⟩
    rw [World.cell?_of_block (w := w) (a := ⟨b, o + j, none⟩) (hk b hp (World.block_lt_of_cell? w ⟨b, o + j, none⟩ (hc j v hj)))]
    exact hc j v hj⟩
theorem Vs.below {w w' : World} {P : Nat → Prop} {A : Option Addr} {c : Nat} {vs : List Value} (h : Vs w P A c vs) (hb : Below w.heap.size w w') : Vs w' P A c vs := h.move fun b _ hlt => hb.block b hlt
def nums (k : IntKind) (l : List Int) : List Value := l.map (.int k)
def texts (l : List (List UInt8)) : List Value := l.map fun s => .string ⟨s.toArray⟩
theorem nums_len (k : IntKind) (l : List Int) : (nums k l).length = l.length := by simp [nums]
theorem texts_len (l : List (List UInt8)) : (texts l).length = l.length := by simp [texts]
theorem nums_at (k : IntKind) (l : List Int) (j : Nat) (h : j < l.length) : (nums k l)[j]? = some (.int k (l.getD j 0)) := by simp [nums, List.getElem?_eq_getElem h]
theorem texts_at (l : List (List UInt8)) (j : Nat) (h : j < l.length) : (texts l)[j]? = some (.string ⟨(l.getD j []).toArray⟩) := by simp [texts, List.getElem?_eq_getElem h]

section
variable {H : Type} {enc : TypeId × Value → H} {P : Program}
end
end Go.Proofs.YtahcokfoifdlmaaGreatDoor.Lw
namespace Go.Proofs.YtahcokfoifdlmaaGreatDoor.Kt
open Go Go.RowKit Lw

/-- a list of texts in a row of the call's own (E: the number of the type string) -/
def OwT (w : World) (B : Nat) (E : TypeId) (v : Value) (l : List (List UInt8)) : Prop := w.ownsRow B E 1 v l.length (texts l)
theorem texts_append (l r : List (List UInt8)) : texts (l ++ r) = texts l ++ texts r := by simp [texts]
theorem texts_one (l : List (List UInt8)) : ∀ v ∈ texts l, v.oneCell' = true := by
  intro v hv; simp only [texts, List.mem_map] at hv; obtain ⟨_, _, rfl⟩ := hv; rfl
section
variable {w w' : World} {B : Nat} {E : TypeId} {v : Value} {l : List (List UInt8)}
theorem OwT.nil (w : World) (B : Nat) (E : TypeId) : OwT w B E (.slice none 0 0) [] := World.ownsRow_nil w B E 1
theorem OwT.lit (w : World) (B : Nat) (E : TypeId) (l : List (List UInt8)) (c : Array Value) (hc : c = (texts l).toArray) (hB : B ≤ w.heap.size) (hl : l.length ≤ maxLen) :
    OwT (w.alloc (.cells c E)) B E (.slice (some ⟨w.heap.size, 0, none⟩) l.length l.length) l := by
  subst hc
  have := World.ownsRow_lit (e := E) (size := 1) (base := B) w (texts l).toArray l.length hB hl (by simp [texts_len])
  simpa [OwT] using this
theorem OwT.alloc (h : OwT w B E v l) (o : Obj) : OwT (w.alloc o) B E v l := World.ownsRow.alloc h o
theorem OwT.drew (h : OwT w B E v l) : OwT w.drew B E v l := h
theorem OwT.drewN (h : OwT w B E v l) (n : Nat) : OwT (w.drewN n) B E v l := h
theorem OwT.below (h : OwT w B E v l) {B' : Nat} (hb : Below B' w w') (hv : ∀ g, v.ownBlock = some g → g < B') : OwT w' B E v l := by
  refine ⟨h.1, ?_⟩
  rcases h.2 with ⟨h1, h2⟩ | ⟨g, cap, cur, hv', h1, h2, h3⟩
  · exact .inl ⟨h1, h2⟩
  · exact .inr ⟨g, cap, cur, hv', h1, (hb.block g (hv g (by rw [hv']; rfl))).trans h2, h3⟩
theorem OwT.kept (h : OwT w B E v l) (hb : Below w.heap.size w w') : OwT w' B E v l := h.below hb fun g hg => (World.ownsRow.lt h g hg).2
theorem OwT.vs (h : OwT w B E v l) : ∃ A c, v = .slice A l.length c ∧ Vs w (fun b => B ≤ b ∧ v.ownBlock = some b) A c (texts l) := by
  rcases h.2 with ⟨rfl, h0⟩ | ⟨g, cap, cur, rfl, hB, hg, hnc, hcm, hs, ht⟩
  · have e : l = [] := List.eq_nil_of_length_eq_zero h0
    subst e
    exact ⟨none, 0, rfl, Nat.le_refl _, fun h => by simp [texts] at h⟩
  · refine ⟨_, cap, rfl, by rw [texts_len]; exact hnc, fun _ => ⟨g, 0, rfl, ⟨hB, rfl⟩, fun j v hj => ?_⟩⟩
    have hlt : j < l.length := by have := (List.getElem?_eq_some_iff.1 hj).1; rwa [texts_len] at this
    have := World.ownsRow.cellAt (cap := cap) h j (by omega)
    rw [Nat.zero_add, this, hj]
end

theorem run_append_nothingT {P : Program} {w : World} {t ty e : TypeId} {i : TypeInfo} (ht : P.underlying t = some (.slice e)) (hi : P.info? e = some i) {B size : Nat}
    {v : Value} {n : Nat} {xs : List Value} (hown : w.ownsRow B e size v n xs) (c : Nat) : (Builtin.append_ #[t, t] ty #[v, .slice none 0 c]).run P w = .ok v w := by
  rcases hown.2 with ⟨rfl, rfl⟩ | ⟨g, cap, cur, rfl, _, _, hnc, _⟩
  · simp [Builtin.append_, run_underlying ht, sizeOf, typeInfo, hi, Builtin.lenOf, Builtin.firstCells]
  · simp [Builtin.append_, run_underlying ht, sizeOf, typeInfo, hi, Builtin.lenOf, Builtin.firstCells, hnc, storeCells]

/-- append(s, texts..) onto a row of texts of the call's own -/
theorem wp_catT {P : Program} {o : Oper} {a : Act} {K : Act → World → Prop} {Q : Exit → Act → World → Prop} {w : World} {E : TypeId}
    (s x : Operand) (t : TypeId) (ho : o.op = .call { callee := .builtin .append, args := #[s, x], argTypes := #[t, t] })
    (ht : P.underlying t = some (.slice E)) (hi : (P.info? E).map (fun i => (i.zero, i.size, i.bytes)) = some (some (.string ⟨#[]⟩), 1, 16))
    (B : Nat) (w0 : World) (v : Value) (l r : List (List UInt8)) (Pb : Nat → Prop) (A : Option Addr) (c : Nat) (hs : a.eval s = v) (hx : a.eval x = .slice A r.length c)
    (hown : OwT w B E v l) (hsl : Vs w Pb A c (texts r)) (hlen : l.length + r.length ≤ 4398046511104) (hb : Below B w0 w) (hbase : B ≤ w.heap.size)
    (h : ∀ v' w', OwT w' B E v' (l ++ r) → Below B w0 w' → w.grownBy w' v.ownBlock → K (a.put o.dst v') w') : o.wp P a w K Q := by
  obtain ⟨i0, hi0, hz0, hz1, hz2⟩ := info_parts hi
  cases A with
  | none =>
    have h0 : r = [] := by
      cases r with
      | nil => rfl
      | cons b r => obtain ⟨_, _, he, _⟩ := hsl.2 (by simp [texts]); cases he
    subst h0
    have hrun := run_append_nothingT (P := P) (ty := o.type) ht hi0 hown c
    simp only [List.length_nil] at hx
    unfold Oper.wp execOp
    simp only [ho, resolve, invoke, builtin, Sem.run_bind, Sem.run_pure, Result.andThen_ok, List.map_toArray, List.map_cons, List.map_nil, hs, hx, hrun]
    exact h v w (by simpa using hown) hb (World.grownBy.refl _ _)
  | some ad =>
    refine wp_append_own _ s x t ho B E i0 (.string ⟨#[]⟩) 1 16 ht hi0 hz0 hz1 hz2 rfl (by omega) v l.length (texts l) hs hown ad r.length c (texts r) hx (by simp [texts_len])
      (fun j u hu => ?_) (texts_one r) (by unfold maxLen; omega) (by omega) hbase (fun v' w' h1 h2 _ => ?_)
    · have hj : j < r.length := by have := (List.getElem?_eq_some_iff.1 hu).1; rwa [texts_len] at this
      obtain ⟨b, k, he, _, hc⟩ := hsl.2 (by rw [texts_len]; omega)
      injection he with he
      subst he
      rw [Addr.add_mid]
      exact hc j u hu
    · refine h v' w' ?_ (hb.grown h2 hbase fun k hk => (World.ownsRow.lt hown k hk).1) h2
      unfold OwT
      rw [List.length_append, texts_append]
      exact h1
theorem Vs.one (w : World) (E : TypeId) (y : List UInt8) : Vs (w.alloc (.cells #[.string ⟨y.toArray⟩] E)) (fun _ => True) (some ⟨w.heap.size, 0, none⟩) 1 (texts [y]) :=
  ⟨by simp [texts], fun _ => ⟨w.heap.size, 0, rfl, trivial, fun j v hj => by
    rw [Nat.zero_add, (Row.fresh w _ _).cell]
    exact hj⟩⟩
end Go.Proofs.YtahcokfoifdlmaaGreatDoor.Kt
namespace Go.Proofs.YtahcokfoifdlmaaGreatDoor.Lw
open Go Go.RowKit Kt
theorem Vs.bound {w : World} {P : Nat → Prop} {A : Option Addr} {c : Nat} {vs : List Value} (h : Vs w P A c vs) : Vs w (fun b => b < w.heap.size) A c vs :=
  ⟨h.1, fun hn => by
    obtain ⟨b, o, rfl, hp, hc⟩ := h.2 hn
    obtain ⟨v, hv⟩ : ∃ v, vs[0]? = some v := ⟨vs[0], List.getElem?_eq_getElem hn⟩
    exact ⟨b, o, rfl, World.block_lt_of_cell? w ⟨b, o + 0, none⟩ (hc 0 v hv), hc⟩⟩
/-- the cell of text k, in a world behind -/
theorem Vs.text {w w' : World} {A : Option Addr} {c : Nat} {l : List (List UInt8)} (h : Vs w (fun b => b < w.heap.size) A c (texts l)) (hb : Below w.heap.size w w') {k : Nat} (hk : k < l.length) :
    ∃ b o, A = some ⟨b, o, none⟩ ∧ w'.cell? ⟨b, o + k, none⟩ = some (.string ⟨(l.getD k []).toArray⟩) := by
  obtain ⟨b, o, rfl, hp, hc⟩ := h.2 (by rw [texts_len]; omega)
  exact ⟨b, o, rfl, (World.cell?_of_block (a := ⟨b, o + k, none⟩) (hb.block b hp)).trans (hc k _ (texts_at l k hk))⟩
end Go.Proofs.YtahcokfoifdlmaaGreatDoor.Lw
namespace Go.Proofs.YtahcokfoifdlmaaGreatDoor.Li
open Go Go.RowKit Kt Lw

theorem app_txt (x y : List UInt8) : ByteArray.mk x.toArray ++ ByteArray.mk y.toArray = ⟨(x ++ y).toArray⟩ := by
  apply ByteArray.ext
  simp
end Go.Proofs.YtahcokfoifdlmaaGreatDoor.Li
namespace Go.Proofs.YtahcokfoifdlmaaGreatDoor.Lx
open Go Go.RowKit Kt Lw Li

theorem get_at9 (l : List UInt8) (k : Nat) (h : k < (ByteArray.mk l.toArray).size) : (ByteArray.mk l.toArray)[k] = l.getD k 0 := by
  have h' : k < l.length := h
  have : (ByteArray.mk l.toArray)[k] = l[k]'h' := rfl
  rw [this]
  simp [List.getElem?_eq_getElem h']
theorem rless_cons (x y : UInt8) (p q : List UInt8) : Op.bytesLess (x :: p) (y :: q) = (decide (x < y) || (x == y && Op.bytesLess p q)) := rfl
theorem rless_end {p q : List UInt8} (h : p = [] ∨ q = []) : Op.bytesLess p q = decide (p.length < q.length) := by
  cases p with
  | nil => cases q <;> simp [Op.bytesLess]
  | cons x p =>
    have hq : q = [] := by simpa using h
    subst hq
    simp [Op.bytesLess]
theorem rdrop_getD (a : List UInt8) (k : Nat) (h : k < a.length) : a.drop k = a.getD k 0 :: a.drop (k + 1) := by
  rw [List.drop_eq_getElem_cons h]; simp [List.getElem?_eq_getElem h]
set_option maxRecDepth 100000 in
set_option maxHeartbeats 2000000 in
theorem rless_any (a b : List UInt8) (w : World) (ha : a.length ≤ 100000) (_hb : b.length ≤ 100000) :
    Calls Tryz.prog 20 #[.string ⟨a.toArray⟩, .string ⟨b.toArray⟩] w fun e w' => e = .returned (.bool (Op.bytesLess a b)) ∧ Below w.heap.size w w' := by
  go_enter Tryz.func20, Tryz.ntmps20
  go_wp2
  go_loopw [5] (fun i wr => ∃ k : Nat, k ≤ a.length ∧ k ≤ b.length ∧ i = .int .i64 k ∧ Hid (Op.bytesLess a b = Op.bytesLess (a.drop k) (b.drop k)) ∧ Below w.heap.size w wr) (fun i _ => a.length - (intOf i).toNat)
  case atStart => exact ⟨0, Nat.zero_le _, Nat.zero_le _, rfl, by show Hid _; exact hide rfl, Below.refl _ _⟩
  case round =>
    obtain ⟨k, hka, hkb, rfl, HL, hbw⟩ := hrel
    have Hb := hide hbw
    clear hbw
    by_cases hlt : k < a.length ∧ k < b.length
    · obtain ⟨h1, h2⟩ := hlt
      have e1 := get_at9 a k (by show k < a.length; exact h1)
      have e2 := get_at9 b k (by show k < b.length; exact h2)
      have hL := HL.out
      rw [rdrop_getD a k h1, rdrop_getD b k h2, rless_cons] at hL
      generalize a.getD k 0 = x at *
      generalize b.getD k 0 = y at *
      clear HL
      by_cases hxy : x = y
      · subst hxy
        have HL2 := hide (show Op.bytesLess a b = Op.bytesLess (a.drop (k + 1)) (b.drop (k + 1)) by rw [hL]; simp)
        clear hL
        go_wp2
        go_quiet (fail)
        go_wp2
        exact ⟨⟨k + 1, by omega, by omega, by go_num, HL2, below_drewN Hb.out _⟩, by simp [intOf]; omega⟩
      · have hne : ((x.toNat : Int) != (y.toNat : Int)) = true := by
          rw [bne_iff_ne]
          intro h
          exact hxy (UInt8.toNat_inj.1 (by omega))
        have HL2 := hide (show Op.bytesLess a b = decide (x.toNat < y.toNat) by
          rw [hL, show (x == y) = false by simpa using hxy]
          simp only [Bool.false_and, Bool.or_false]
          rw [decide_eq_decide, UInt8.lt_iff_toNat_lt])
        clear hL hxy
        go_wp2
        go_quiet (fail)
        go_wp2
        go_quiet (fail)
        go_wp2
        go_ret
        exact ⟨by rw [HL2.out]; rfl, below_drewN (below_drewN Hb.out _) _⟩
    · have hor : a.drop k = [] ∨ b.drop k = [] := by
        rw [List.drop_eq_nil_iff, List.drop_eq_nil_iff]; omega
      have HL2 := hide (show Op.bytesLess a b = decide (a.length < b.length) by
        rw [HL.out, rless_end hor, decide_eq_decide, List.length_drop, List.length_drop]
        omega)
      clear HL hor
      by_cases h1 : k < a.length
      · have h2 : ¬ k < b.length := fun h => hlt ⟨h1, h⟩
        have d1 : decide ((k : Int) < (a.length : Int)) = true := decide_eq_true (by omega)
        have d2 : decide ((k : Int) < (b.length : Int)) = false := decide_eq_false (by omega)
        clear hlt
        go_wp2
        go_ret
        exact ⟨by rw [HL2.out]; rfl, Hb.out⟩
      · have d1 : decide ((k : Int) < (a.length : Int)) = false := decide_eq_false (by omega)
        clear hlt
        go_wp2
        go_ret
        exact ⟨by rw [HL2.out]; rfl, Hb.out⟩
end Go.Proofs.YtahcokfoifdlmaaGreatDoor.Lx
namespace Go.Proofs.YtahcokfoifdlmaaGreatDoor.Tr
open Go Go.RowKit Kt Lw Li Lx

theorem cut_byte (s : List UInt8) (k : Nat) (h : k < s.length) : (ByteArray.mk s.toArray).extract k (k + 1) = ⟨[s.getD k 0].toArray⟩ := by
  have e : s.getD k 0 = s[k] := by simp [List.getElem?_eq_getElem h]
  have e2 : (s.drop k).take 1 = [s[k]] := by rw [List.drop_eq_getElem_cons h]; rfl
  apply ByteArray.ext
  rw [e, ByteArray.data_extract]
  apply Array.ext'
  simp [e2]
theorem app_byte (x : Bs) (c : UInt8) : ByteArray.mk x.toArray ++ ByteArray.mk [c].toArray = ⟨(x ++ [c]).toArray⟩ := app_txt x [c]
theorem part_no1 : part [] = false := by decide
theorem part_no2 : part [46] = false := by decide
theorem part_no3 : part [46, 46] = false := by decide
theorem part_yes {q : Bs} (h1 : ¬ q = []) (h2 : ¬ q = [46]) (h3 : ¬ q = [46, 46]) : part q = true := by simp [part, h1, h2, h3]
set_option maxRecDepth 100000 in
set_option maxHeartbeats 4000000 in
theorem rpath_any (p : Bs) (w : World) (hl : p.length ≤ 9223372036854775807) :
    Calls Tryz.prog 19 #[.string ⟨p.toArray⟩] w fun y w' => y = .returned (.bool (can p)) ∧ w' = w := by
  by_cases hlong : 200 < p.length
  · have Hc := hide (show can p = false by unfold can; rw [decide_eq_false (by omega)]; rfl)
    have d0 : decide (200 < (p.length : Int)) = true := decide_eq_true (by omega)
    have d1 : decide (200 < p.length) = true := decide_eq_true hlong
    clear hlong
    go_enter Tryz.func19, Tryz.ntmps19
    go_wp2
    go_ret
    exact ⟨by rw [Hc.out]; rfl, rfl⟩
  · have Hc := hide (show can p = rest [] p by unfold can; rw [decide_eq_true (by omega), Bool.true_and])
    have d0 : decide (200 < (p.length : Int)) = false := decide_eq_false (by omega)
    have d1 : decide (200 < p.length) = false := decide_eq_false hlong
    obtain ⟨n, hn⟩ : ∃ n, n = p.length := ⟨_, rfl⟩
    have hn2 : n ≤ 200 := by omega
    have Hn := hide hn
    clear hl
    go_enter Tryz.func19, Tryz.ntmps19
    go_wp2
    go_loopw [3, 4] (fun s i wr => ∃ (k : Nat) (q : Bs), k ≤ n + 1 ∧ i = .int .i64 k ∧ s = .string ⟨q.toArray⟩ ∧ Hid (q.length ≤ k ∧ (k ≤ n → rest [] p = rest q (p.drop k)) ∧ (k = n + 1 → rest [] p = true)) ∧ w = wr) (fun _ i _ => n + 1 - (intOf i).toNat)
    case atStart => exact ⟨0, [], by omega, rfl, rfl, by show Hid _; exact hide ⟨Nat.le_refl _, fun _ => rfl, fun h => by omega⟩, rfl⟩
    case round =>
      obtain ⟨k, q, hk, rfl, rfl, HR, rfl⟩ := hrel
      have hq : q.length ≤ k := HR.out.1
      rw [← hn] at d0 d1
      by_cases hend : k = n + 1
      · have Hr := hide (HR.out.2.2 hend)
        have dk : decide ((k : Int) ≤ (p.length : Int)) = false := decide_eq_false (by omega)
        have dk2 : decide (k ≤ p.length) = false := decide_eq_false (by omega)
        clear HR hend hn
        go_wp2
        go_ret
        exact ⟨by rw [Hc.out, Hr.out]; rfl, rfl⟩
      · have dk : decide ((k : Int) ≤ (p.length : Int)) = true := decide_eq_true (by omega)
        have dk2 : decide (k ≤ p.length) = true := decide_eq_true (by omega)
        by_cases hkn : k = n
        · have hr := HR.out.2.1 (by omega)
          rw [hkn, hn, List.drop_length, rest] at hr
          have dz : ((k : Int) == (p.length : Int)) = true := by rw [beq_iff_eq]; omega
          have dz2 : (k == p.length) = true := by rw [beq_iff_eq]; omega
          have hkp : k = p.length := by omega
          clear hend hn HR
          by_cases g0 : q = []
          · subst g0
            rw [part_no1] at hr
            have Hr := hide hr
            clear hr
            go_wp2
            go_ret
            exact ⟨by rw [Hc.out, Hr.out]; rfl, rfl⟩
          have b0 : (q == []) = false := by simpa using g0
          have b0e : q.isEmpty = false := by simpa using g0
          by_cases g1 : q = [46]
          · subst g1
            rw [part_no2] at hr
            have Hr := hide hr
            clear hr
            go_wp2
            go_ret
            exact ⟨by rw [Hc.out, Hr.out]; rfl, rfl⟩
          have b1 : (q == [46]) = false := by simpa using g1
          by_cases g2 : q = [46, 46]
          · subst g2
            rw [part_no3] at hr
            have Hr := hide hr
            clear hr
            go_wp2
            go_ret
            exact ⟨by rw [Hc.out, Hr.out]; rfl, rfl⟩
          have b2 : (q == [46, 46]) = false := by simpa using g2
          rw [part_yes g0 g1 g2] at hr
          have Hr := hide hr
          clear hr
          go_wp2
          exact ⟨⟨k + 1, [], by omega, by go_num, rfl, by show Hid _; exact hide ⟨by simp, fun h => by omega, fun _ => Hr.out⟩, trivial⟩, by simp [intOf]; omega⟩
        · have hkl : k < p.length := by omega
          have hr := HR.out.2.1 (by omega)
          have eg := get_at9 p k hkl
          have ec := cut_byte p k hkl
          rw [rdrop_getD p k hkl, rest] at hr
          have dz : ((k : Int) == (p.length : Int)) = false := by rw [beq_eq_false_iff_ne]; omega
          have dz2 : (k == p.length) = false := by rw [beq_eq_false_iff_ne]; omega
          have hkp : ¬ k = p.length := by omega
          generalize p.getD k 0 = c at *
          clear hend HR
          by_cases h47 : c = 47
          · rw [if_pos h47] at hr
            have c47 : ((c.toNat : Int) == 47) = true := by rw [h47]; rfl
            have c47n : (c.toNat == 47) = true := by rw [h47]; rfl
            clear h47 hn
            by_cases g0 : q = []
            · subst g0
              rw [part_no1, Bool.false_and] at hr
              have Hr := hide hr
              clear hr
              go_wp2
              go_ret
              exact ⟨by rw [Hc.out, Hr.out]; rfl, rfl⟩
            have b0 : (q == []) = false := by simpa using g0
            have b0e : q.isEmpty = false := by simpa using g0
            by_cases g1 : q = [46]
            · subst g1
              rw [part_no2, Bool.false_and] at hr
              have Hr := hide hr
              clear hr
              go_wp2
              go_ret
              exact ⟨by rw [Hc.out, Hr.out]; rfl, rfl⟩
            have b1 : (q == [46]) = false := by simpa using g1
            by_cases g2 : q = [46, 46]
            · subst g2
              rw [part_no3, Bool.false_and] at hr
              have Hr := hide hr
              clear hr
              go_wp2
              go_ret
              exact ⟨by rw [Hc.out, Hr.out]; rfl, rfl⟩
            have b2 : (q == [46, 46]) = false := by simpa using g2
            rw [part_yes g0 g1 g2, Bool.true_and] at hr
            have Hr := hide hr
            clear hr
            go_wp2
            exact ⟨⟨k + 1, [], by have := Hn.out; omega, by go_num, rfl, by show Hid _; exact hide ⟨by simp, fun _ => Hr.out, fun h => by have := Hn.out; omega⟩, trivial⟩, by have := Hn.out; simp [intOf]; omega⟩
          · rw [if_neg h47] at hr
            have cn : ¬ c.toNat = 47 := fun h => h47 (UInt8.toNat_inj.1 h)
            have c47 : ((c.toNat : Int) == 47) = false := by rw [beq_eq_false_iff_ne]; omega
            have c47n : (c.toNat == 47) = false := by rw [beq_eq_false_iff_ne]; omega
            by_cases h32 : c.toNat < 32
            · rw [show decide (c < 32) = true from decide_eq_true (by rw [UInt8.lt_iff_toNat_lt]; exact h32)] at hr
              have Hr := hide (show rest [] p = false by rw [hr]; simp)
              have c32 : decide ((c.toNat : Int) < 32) = true := decide_eq_true (by omega)
              have c32n : decide (c.toNat < 32) = true := decide_eq_true h32
              clear hr hn h47
              go_wp2
              go_ret
              exact ⟨by rw [Hc.out, Hr.out]; rfl, rfl⟩
            · rw [show decide (c < 32) = false from decide_eq_false (by rw [UInt8.lt_iff_toNat_lt]; exact h32)] at hr
              have c32 : decide ((c.toNat : Int) < 32) = false := decide_eq_false (by omega)
              have c32n : decide (c.toNat < 32) = false := decide_eq_false h32
              by_cases h127 : c.toNat = 127
              · have hce : c = 127 := UInt8.toNat_inj.1 h127
                have Hr := hide (show rest [] p = false by rw [hr, hce]; simp)
                have c7 : ((c.toNat : Int) == 127) = true := by rw [beq_iff_eq]; omega
                have c7n : (c.toNat == 127) = true := by rw [beq_iff_eq]; exact h127
                clear hr hn h47 h127 hce
                go_wp2
                go_ret
                exact ⟨by rw [Hc.out, Hr.out]; rfl, rfl⟩
              · have Hr := hide (show rest [] p = rest (q ++ [c]) (p.drop (k + 1)) by
                  rw [hr, show (c == 127) = false by rw [beq_eq_false_iff_ne]; exact fun h => h127 (by rw [h]; rfl)]; simp)
                have c7 : ((c.toNat : Int) == 127) = false := by rw [beq_eq_false_iff_ne]; omega
                have c7n : (c.toNat == 127) = false := by rw [beq_eq_false_iff_ne]; exact h127
                have ea := app_byte q c
                have hx : ¬ 9223372036854775807 < q.length + 1 := by omega
                have hk1 : (k : Int) + 1 ≤ (p.length : Int) := by omega
                have hk2 : (k : Int) ≤ (k : Int) + 1 := by omega
                have hk3 : 0 ≤ (k : Int) + 1 := by omega
                have hk4 : ((k : Int) + 1).toNat = k + 1 := by omega
                clear hr hn h47 h127
                go_wp2
                exact ⟨⟨k + 1, q ++ [c], by have := Hn.out; omega, by go_num, rfl, by show Hid _; exact hide ⟨by simp; omega, fun _ => Hr.out, fun h => by have := Hn.out; omega⟩, trivial⟩, by have := Hn.out; simp [intOf]; omega⟩
end Go.Proofs.YtahcokfoifdlmaaGreatDoor.Tr
namespace Go.Proofs.YtahcokfoifdlmaaGreatDoor.Df

/-- how long the longest common subsequence is -/
def lcs {α : Type} [DecidableEq α] : List α → List α → Nat
  | [], _ => 0
  | _ :: _, [] => 0
  | a :: x, b :: y => if a = b then lcs x y + 1 else max (lcs x (b :: y)) (lcs (a :: x) y)
termination_by x y => x.length + y.length

section
variable {α : Type} [DecidableEq α]
theorem lcs_nil_left (y : List α) : lcs [] y = 0 := by rw [lcs]
theorem lcs_nil_right (x : List α) : lcs x [] = 0 := by
  cases x with
  | nil => rw [lcs]
  | cons a x => rw [lcs]
theorem lcs_cons (a b : α) (x y : List α) : lcs (a :: x) (b :: y) = if a = b then lcs x y + 1 else max (lcs x (b :: y)) (lcs (a :: x) y) := by rw [lcs]
end

/-- an edit -/
structure Ed where
  pos : Int
  del : Int
  ins : List (List UInt8)
abbrev Ls := List (List UInt8)
def emit (pos del : Nat) (ins : Ls) : List Ed := if del = 0 ∧ ins = [] then [] else [⟨pos, del, ins⟩]
/-- the way, line by line: behind 'pos' lines of a 'del' have gone, and 'ins' come, since a line stayed last -/
def go : Ls → Ls → Nat → Nat → Ls → List Ed
  | [], [], pos, del, ins => emit pos del ins
  | [], b :: y, pos, del, ins => go [] y pos del (ins ++ [b])
  | _ :: x, [], pos, del, ins => go x [] pos (del + 1) ins
  | a :: x, b :: y, pos, del, ins =>
    if a = b then emit pos del ins ++ go x y (pos + del + 1) 0 []
    else if lcs (a :: x) y ≤ lcs x (b :: y) then go x (b :: y) pos (del + 1) ins else go (a :: x) y pos del (ins ++ [b])
termination_by x y => x.length + y.length
theorem go_nil (pos del : Nat) (ins : Ls) : go [] [] pos del ins = emit pos del ins := by rw [go]
theorem go_come (b : List UInt8) (y : Ls) (pos del : Nat) (ins : Ls) : go [] (b :: y) pos del ins = go [] y pos del (ins ++ [b]) := by rw [go]
theorem go_gone (a : List UInt8) (x : Ls) (pos del : Nat) (ins : Ls) : go (a :: x) [] pos del ins = go x [] pos (del + 1) ins := by rw [go]
theorem go_both (a b : List UInt8) (x y : Ls) (pos del : Nat) (ins : Ls) : go (a :: x) (b :: y) pos del ins =
    if a = b then emit pos del ins ++ go x y (pos + del + 1) 0 []
    else if lcs (a :: x) y ≤ lcs x (b :: y) then go x (b :: y) pos (del + 1) ins else go (a :: x) y pos del (ins ++ [b]) := by rw [go]
/-- one rule for what is in the program's own order -/
theorem go_ind (P : Ls → Ls → Nat → Nat → Ls → List Ed → Prop) (h0 : ∀ pos del ins, P [] [] pos del ins (emit pos del ins))
    (h1 : ∀ b y pos del ins r, P [] y pos del (ins ++ [b]) r → P [] (b :: y) pos del ins r) (h2 : ∀ a x pos del ins r, P x [] pos (del + 1) ins r → P (a :: x) [] pos del ins r)
    (h3 : ∀ a x y pos del ins r, P x y (pos + del + 1) 0 [] r → P (a :: x) (a :: y) pos del ins (emit pos del ins ++ r))
    (h4 : ∀ a b x y pos del ins r, a ≠ b → lcs (a :: x) y ≤ lcs x (b :: y) → P x (b :: y) pos (del + 1) ins r → P (a :: x) (b :: y) pos del ins r)
    (h5 : ∀ a b x y pos del ins r, a ≠ b → ¬ lcs (a :: x) y ≤ lcs x (b :: y) → P (a :: x) y pos del (ins ++ [b]) r → P (a :: x) (b :: y) pos del ins r) :
    ∀ (n : Nat) (x y : Ls) (pos del : Nat) (ins : Ls), x.length + y.length ≤ n → P x y pos del ins (go x y pos del ins)
  | _, [], [], pos, del, ins, _ => by rw [go_nil]; exact h0 _ _ _
  | 0, [], b :: y, pos, del, ins, h => by simp at h
  | n + 1, [], b :: y, pos, del, ins, h => by
    simp only [List.length_cons, List.length_nil] at h
    rw [go_come]; exact h1 _ _ _ _ _ _ (go_ind P h0 h1 h2 h3 h4 h5 n [] y _ _ _ (by simp; omega))
  | 0, a :: x, _, pos, del, ins, h => by simp at h
  | n + 1, a :: x, [], pos, del, ins, h => by
    simp only [List.length_cons, List.length_nil] at h
    rw [go_gone]; exact h2 _ _ _ _ _ _ (go_ind P h0 h1 h2 h3 h4 h5 n x [] _ _ _ (by simp; omega))
  | n + 1, a :: x, b :: y, pos, del, ins, h => by
    simp only [List.length_cons] at h
    rw [go_both]
    split
    · rename_i e
      subst e
      exact h3 _ _ _ _ _ _ _ (go_ind P h0 h1 h2 h3 h4 h5 n x y _ _ _ (by omega))
    · rename_i e
      split
      · rename_i hl
        exact h4 _ _ _ _ _ _ _ _ e hl (go_ind P h0 h1 h2 h3 h4 h5 n x (b :: y) _ _ _ (by simp; omega))
      · rename_i hl
        exact h5 _ _ _ _ _ _ _ _ e hl (go_ind P h0 h1 h2 h3 h4 h5 n (a :: x) y _ _ _ (by simp; omega))

/-- how many lines go and come -/
def size : List Ed → Int
  | [] => 0
  | e :: l => max 0 e.del + e.ins.length + size l
/-- are edits right, behind an edit that ends at 'last'? -/
def right (n : Int) : Int → List Ed → Bool
  | _, [] => true
  | last, e :: l => (decide (0 ≤ e.del) && decide (e.del ≠ 0 ∨ e.ins ≠ []) && decide (last < e.pos) && decide (e.pos ≤ n) && decide (e.del ≤ n - e.pos)) && right n (e.pos + e.del) l
theorem right_cons (n last : Int) (e : Ed) (l : List Ed) : right n last (e :: l) = true ↔ (0 ≤ e.del ∧ (e.del ≠ 0 ∨ e.ins ≠ []) ∧ last < e.pos ∧ e.pos ≤ n ∧ e.del ≤ n - e.pos) ∧ right n (e.pos + e.del) l = true := by
  simp only [right, Bool.and_eq_true, decide_eq_true_eq, and_assoc]
theorem right_emit (n last : Int) (pos del : Nat) (ins : Ls) (r : List Ed) (h1 : last < pos) (h2 : (pos + del : Int) ≤ n) (hr : ∀ last' : Int, last' ≤ pos + del → right n last' r = true) : right n last (emit pos del ins ++ r) = true := by
  unfold emit
  split
  · exact hr last (by omega)
  · rename_i h
    rw [List.singleton_append, right_cons]
    refine ⟨⟨by simp, ?_, h1, by simp; omega, by simp; omega⟩, hr _ (by simp)⟩
    by_cases hd : del = 0
    · exact .inr fun e => h ⟨hd, e⟩
    · exact .inl (by simp; exact hd)
theorem right_go (n : Int) (x y : Ls) (pos del : Nat) (ins : Ls) (last : Int) (h1 : last < pos) (h2 : (pos + del + x.length : Int) ≤ n) : right n last (go x y pos del ins) = true := by
  refine go_ind (fun x y pos del ins r => ∀ last : Int, last < pos → (pos + del + x.length : Int) ≤ n → right n last r = true) ?_ ?_ ?_ ?_ ?_ ?_ _ x y pos del ins (Nat.le_refl _) last h1 h2
  · intro pos del ins last h1 h2
    have := right_emit n last pos del ins [] h1 (by simp at h2; omega) (fun _ _ => rfl)
    rwa [List.append_nil] at this
  · intro b y pos del ins r h last h1 h2; exact h last h1 h2
  · intro a x pos del ins r h last h1 h2; exact h last h1 (by simp at h2 ⊢; omega)
  · intro a x y pos del ins r h last h1 h2
    exact right_emit n last pos del ins r h1 (by simp at h2; omega) (fun l' hl => h l' (by omega) (by simp at h2 ⊢; omega))
  · intro a b x y pos del ins r hab hl h last h1 h2; exact h last h1 (by simp at h2 ⊢; omega)
  · intro a b x y pos del ins r hab hl h last h1 h2; exact h last h1 h2

/-- what lines become, from line 'at' on -/
def play (a : Ls) : Nat → List Ed → Ls
  | at_, [] => a.drop at_
  | at_, e :: l => (a.drop at_).take (e.pos.toNat - at_) ++ e.ins ++ play a (e.pos.toNat + e.del.toNat) l
theorem drop_split {α : Type} (a : List α) (i j : Nat) (h : i ≤ j) : a.drop i = (a.drop i).take (j - i) ++ a.drop j := by
  conv => lhs; rw [← List.take_append_drop (j - i) (a.drop i)]
  rw [List.drop_drop]
  congr 2
  omega
theorem play_go (a s : Ls) (x y : Ls) (pos del : Nat) (ins : Ls) (at_ : Nat) (h1 : at_ ≤ pos) (h2 : a.drop (pos + del) = x ++ s) :
    play a at_ (go x y pos del ins) = (a.drop at_).take (pos - at_) ++ ins ++ y ++ s := by
  refine go_ind (fun x y pos del ins r => ∀ at_ : Nat, at_ ≤ pos → a.drop (pos + del) = x ++ s → play a at_ r = (a.drop at_).take (pos - at_) ++ ins ++ y ++ s) ?_ ?_ ?_ ?_ ?_ ?_ _ x y pos del ins (Nat.le_refl _) at_ h1 h2
  · intro pos del ins at_ h1 h2
    unfold emit
    split
    · rename_i h
      rw [h.1, Nat.add_zero, List.nil_append] at h2
      rw [h.2, play]
      simp only [List.append_nil]
      rw [← h2]
      exact drop_split a at_ pos h1
    · simp only [play, Int.toNat_natCast, List.append_nil]
      rw [h2]; simp
  · intro b y pos del ins r h at_ h1 h2
    rw [h at_ h1 h2]; simp
  · intro a' x pos del ins r h at_ h1 h2
    refine h at_ h1 ?_
    rw [show pos + (del + 1) = pos + del + 1 from by omega, ← List.drop_drop, h2]
    rfl
  · intro c x y pos del ins r h at_ h1 h2
    have h3 : a.drop (pos + del + 1) = x ++ s := by rw [← List.drop_drop, h2]; rfl
    have h4 : (a.drop (pos + del)).take 1 = [c] := by rw [h2]; simp
    unfold emit
    split
    · rename_i hd
      rw [List.nil_append, h at_ (by omega) (by simpa using h3), hd.1, hd.2]
      have h5 : pos + 0 + 1 - at_ = pos - at_ + 1 := by omega
      rw [h5, List.take_add_one, List.getElem?_drop]
      rw [hd.1, Nat.add_zero] at h2
      have h6 : a[at_ + (pos - at_)]? = some c := by
        rw [show at_ + (pos - at_) = pos + 0 from by omega, ← List.getElem?_drop, h2]
        rfl
      rw [h6]
      simp
    · simp only [List.singleton_append, play, Int.toNat_natCast]
      rw [h (pos + del) (by omega) (by simpa using h3), show pos + del + 1 - (pos + del) = 1 from by omega, h4]
      simp
  · intro c b x y pos del ins r hab hl h at_ h1 h2
    refine h at_ h1 ?_
    rw [show pos + (del + 1) = pos + del + 1 from by omega, ← List.drop_drop, h2]
    rfl
  · intro c b x y pos del ins r hab hl h at_ h1 h2
    rw [h at_ h1 h2]; simp

/-- what is known of right edits' first one -/
theorem right_head {n : Nat} {last : Int} {e : Ed} {l : List Ed} (h : right n last (e :: l) = true) (hl : -1 ≤ last) :
    ∃ p d : Nat, e.pos = p ∧ e.del = d ∧ p + d ≤ n ∧ last < p ∧ (d ≠ 0 ∨ e.ins ≠ []) ∧ right n ((p + d : Nat) : Int) l = true := by
  obtain ⟨⟨h1, h2, h3, h4, h5⟩, h6⟩ := (right_cons _ _ _ _).1 h
  obtain ⟨p, hp⟩ := Int.eq_ofNat_of_zero_le (show 0 ≤ e.pos by omega)
  obtain ⟨d, hd⟩ := Int.eq_ofNat_of_zero_le h1
  rw [hp, hd] at h6
  refine ⟨p, d, hp, hd, by omega, by omega, ?_, by rw [Int.natCast_add]; exact h6⟩
  rcases h2 with h2 | h2
  · exact .inl (by omega)
  · exact .inr h2
end Go.Proofs.YtahcokfoifdlmaaGreatDoor.Df
namespace Go.Proofs.YtahcokfoifdlmaaGreatDoor.Df
open Go Go.RowKit Kt Lw

abbrev tS : TypeId := 9
abbrev tE : TypeId := 194
/-- an edit's cells -/
def edC (e : Ed) (vi : Value) : List Value := [.int .i64 e.pos, .int .i64 e.del, vi]
theorem flat_at {α : Type} (f : α → List Value) (n : Nat) (hf : ∀ a, (f a).length = n) : ∀ (l : List α) (j k : Nat) (a : α), l[j]? = some a → k < n → (l.flatMap f)[n * j + k]? = (f a)[k]?
  | [], j, k, a, h, _ => by simp at h
  | b :: l, 0, k, a, h, hk => by
    simp at h
    subst h
    rw [List.flatMap_cons, Nat.mul_zero, Nat.zero_add, List.getElem?_append_left (by rw [hf]; exact hk)]
  | b :: l, j + 1, k, a, h, hk => by
    rw [List.flatMap_cons, List.getElem?_append_right (by rw [hf, Nat.mul_succ]; omega), hf]
    rw [show n * (j + 1) + k - n = n * j + k from by rw [Nat.mul_succ]; omega]
    exact flat_at f n hf l j k a (by simpa using h) hk
theorem flat_len {α : Type} (f : α → List Value) (n : Nat) (hf : ∀ a, (f a).length = n) (l : List α) : (l.flatMap f).length = l.length * n := by
  induction l with
  | nil => simp
  | cons a l ih => rw [List.flatMap_cons, List.length_append, hf, ih, List.length_cons, Nat.succ_mul]; omega
def pairC (p : Ed × Value) : List Value := edC p.1 p.2
theorem pairC_len (p : Ed × Value) : (pairC p).length = 3 := rfl
/-- edits in a row of the call's own, with lines in rows of its own -/
def OwE (w : World) (B : Nat) (v : Value) (L : List Ed) : Prop :=
  ∃ V : List (Ed × Value), V.map (·.1) = L ∧ w.ownsRow B tE 3 v L.length (V.flatMap pairC) ∧ ∀ p ∈ V, OwT w B tS p.2 p.1.ins
/-- '.slice A n c' reads as these edits -/
def Es (w : World) (A : Option Addr) (c : Nat) (L : List Ed) : Prop :=
  L.length ≤ c ∧ (0 < L.length → ∃ b o, A = some ⟨b, o, none⟩ ∧ b < w.heap.size ∧ ∀ j e, L[j]? = some e →
    ∃ A' c', w.rangeAt b (o + 3 * j) (edC e (.slice A' e.ins.length c')) ∧ Vs w (fun b => b < w.heap.size) A' c' (texts e.ins))
theorem vs_keep {w w' : World} {A : Option Addr} {c : Nat} {vs : List Value} (h : Vs w (fun b => b < w.heap.size) A c vs) (hb : Below w.heap.size w w') : Vs w' (fun b => b < w'.heap.size) A c vs :=
  Lw.Vs.bound (Lw.Vs.below h hb)
theorem Es.keep {w w' : World} {A : Option Addr} {c : Nat} {L : List Ed} (h : Es w A c L) (hb : Below w.heap.size w w') : Es w' A c L :=
  ⟨h.1, fun hn => by
    obtain ⟨b, o, rfl, hlt, he⟩ := h.2 hn
    refine ⟨b, o, rfl, Nat.lt_of_lt_of_le hlt hb.size, fun j e hj => ?_⟩
    obtain ⟨A', c', hr, hv⟩ := he j e hj
    exact ⟨A', c', fun i v hi => (World.cell?_of_block (a := ⟨b, o + 3 * j + i, none⟩) (hb.block b hlt)).trans (hr i v hi), vs_keep hv hb⟩⟩
theorem Es.nil (w : World) (A : Option Addr) (c : Nat) : Es w A c [] := ⟨Nat.zero_le _, fun h => by simp at h⟩
theorem OwE.nil (w : World) (B : Nat) : OwE w B (.slice none 0 0) [] := ⟨[], rfl, World.ownsRow_nil _ _ _ _, fun p h => by cases h⟩
theorem OwE.move {w w' : World} {B B' : Nat} {v : Value} {L : List Ed} (h : OwE w B v L) (hb : Below B' w w') (hv : w.heap.size ≤ B') : OwE w' B v L := by
  obtain ⟨V, hV, hr, hi⟩ := h
  refine ⟨V, hV, ⟨hr.1, ?_⟩, fun p hp => (hi p hp).below hb fun g hg => Nat.lt_of_lt_of_le (World.ownsRow.lt (hi p hp) g hg).2 hv⟩
  rcases hr.2 with ⟨h1, h2⟩ | ⟨g, cap, cur, hv', h1, h2, h3⟩
  · exact .inl ⟨h1, h2⟩
  · exact .inr ⟨g, cap, cur, hv', h1, (hb.block g (Nat.lt_of_lt_of_le (Array.getElem?_eq_some_iff.1 h2).1 hv)).trans h2, h3⟩
theorem OwE.keep {w w' : World} {B : Nat} {v : Value} {L : List Ed} (h : OwE w B v L) (hb : Below w.heap.size w w') : OwE w' B v L := h.move hb (Nat.le_refl _)
theorem OwE.base {w : World} {B B' : Nat} {v : Value} {L : List Ed} (h : OwE w B v L) (hb : B' ≤ B) : OwE w B' v L := by
  obtain ⟨V, hV, hr, hi⟩ := h
  have key : ∀ {e : TypeId} {size : Nat} {v : Value} {n : Nat} {xs : List Value}, w.ownsRow B e size v n xs → w.ownsRow B' e size v n xs := fun h =>
    ⟨h.1, h.2.imp id fun ⟨g, cap, cur, hv', h1, h2⟩ => ⟨g, cap, cur, hv', Nat.le_trans hb h1, h2⟩⟩
  exact ⟨V, hV, key hr, fun p hp => key (hi p hp)⟩
theorem OwE.drewN {w : World} {B : Nat} {v : Value} {L : List Ed} (h : OwE w B v L) (n : Nat) : OwE (w.drewN n) B v L := h
theorem OwE.drew {w : World} {B : Nat} {v : Value} {L : List Ed} (h : OwE w B v L) : OwE w.drew B v L := h
/-- append of one edit -/
theorem OwE.append {w w' : World} {B : Nat} {v v' : Value} {L : List Ed} {e : Ed} {vi : Value} (V : List (Ed × Value)) (hV : V.map (·.1) = L) (hr : w.ownsRow B tE 3 v L.length (V.flatMap pairC))
    (hi : ∀ p ∈ V, OwT w B tS p.2 p.1.ins) (hvi : OwT w B tS vi e.ins) (h' : w'.ownsRow B tE 3 v' (L.length + 1) (V.flatMap pairC ++ edC e vi)) (hg : w.grownBy w' v.ownBlock) : OwE w' B v' (L ++ [e]) := by
  have key : ∀ (u : Value) (l : Ls), OwT w B tS u l → OwT w' B tS u l := by
    intro u l hu
    refine World.ownsRow.kept hu hg ?_
    rcases hu.2 with ⟨rfl, _⟩ | ⟨g, cap, cur, rfl, _, hgg, _⟩
    · exact .inl rfl
    · right
      intro he
      rcases hr.2 with ⟨rfl, _⟩ | ⟨g', cap', cur', rfl, _, hgg', _⟩
      · cases he
      · simp only [Value.ownBlock, Option.some.injEq] at he
        subst he
        rw [hgg] at hgg'
        simp [tS, tE] at hgg'
  refine ⟨V ++ [(e, vi)], by simp [hV], ?_, fun p hp => ?_⟩
  · rw [List.flatMap_append, List.length_append]
    exact h'
  · rcases List.mem_append.1 hp with hp | hp
    · exact key _ _ (hi p hp)
    · obtain rfl : p = (e, vi) := by simpa using hp
      exact key _ _ hvi
end Go.Proofs.YtahcokfoifdlmaaGreatDoor.Df
namespace Go.Proofs.YtahcokfoifdlmaaGreatDoor.Df
open Go Go.RowKit Go.WideShapes Go.ChangeShapes Go.ChangeAt Go.ChangeMaps Go.Deep Kt Lw

theorem list_of {α : Type} (Q : Nat → α → Prop) : ∀ n : Nat, (∀ i, i < n → ∃ a, Q i a) → ∃ L : List α, L.length = n ∧ ∀ j a, L[j]? = some a → Q j a
  | 0, _ => ⟨[], rfl, fun j a h => by simp at h⟩
  | n + 1, h => by
    obtain ⟨L, hl, hq⟩ := list_of Q n fun i hi => h i (by omega)
    obtain ⟨a, ha⟩ := h n (by omega)
    refine ⟨L ++ [a], by simp [hl], fun j b hj => ?_⟩
    rcases Nat.lt_or_ge j n with hlt | hge
    · rw [List.getElem?_append_left (by omega)] at hj
      exact hq j b hj
    · have hjl := (List.getElem?_eq_some_iff.1 hj).1
      simp [hl] at hjl
      obtain rfl : j = n := by omega
      rw [List.getElem?_append_right (by omega), hl, Nat.sub_self] at hj
      simp at hj
      rw [← hj]; exact ha
section
variable {H : Type} {enc : TypeId × Value → H}
theorem one_at (cs : List Value) (j : Nat) (v : Value) (h : (cs.drop j).take 1 = [v]) : cs[j]? = some v := by
  have h0 : ((cs.drop j).take 1)[0]? = some v := by rw [h]; rfl
  rw [List.getElem?_take, if_pos (by omega), List.getElem?_drop, Nat.add_zero] at h0
  exact h0
end
end Go.Proofs.YtahcokfoifdlmaaGreatDoor.Df
namespace Go.Proofs.YtahcokfoifdlmaaGreatDoor.Tr
open Go Go.RowKit Go.WideShapes Go.ChangeShapes Go.ChangeAt Go.ChangeMaps Go.Deep Kt Lw Li Df

abbrev tF : TypeId := 48
/-- a file's cells -/
def flC (f : Fl) : List Value := [.string ⟨f.path.toArray⟩, .string ⟨f.text.toArray⟩]
theorem flC_len (r : Fl) : (flC r).length = 2 := rfl
/-- files in a row of the call's own -/
def OwF (w : World) (B : Nat) (v : Value) (L : List Fl) : Prop := w.ownsRow B tF 2 v L.length (L.flatMap flC)
/-- '.slice A n c' reads as these files -/
def Fls (w : World) (A : Option Addr) (c : Nat) (L : List Fl) : Prop :=
  L.length ≤ c ∧ (0 < L.length → ∃ b o, A = some ⟨b, o, none⟩ ∧ b < w.heap.size ∧ ∀ j r, L[j]? = some r → w.rangeAt b (o + 2 * j) (flC r))
theorem OwF.nil (w : World) (B : Nat) : OwF w B (.slice none 0 0) [] := World.ownsRow_nil _ _ _ _
theorem Fls.nil (w : World) (A : Option Addr) (c : Nat) : Fls w A c [] := ⟨Nat.zero_le _, fun h => by simp at h⟩
theorem Fls.keep {w w' : World} {A : Option Addr} {c : Nat} {L : List Fl} (h : Fls w A c L) (hb : Below w.heap.size w w') : Fls w' A c L :=
  ⟨h.1, fun hn => by
    obtain ⟨b, o, rfl, hlt, he⟩ := h.2 hn
    exact ⟨b, o, rfl, Nat.lt_of_lt_of_le hlt hb.size, fun j e hj i v hi => (World.cell?_of_block (a := ⟨b, o + 2 * j + i, none⟩) (hb.block b hlt)).trans (he j e hj i v hi)⟩⟩
theorem OwF.fls {w : World} {B : Nat} {v : Value} {L : List Fl} (h : OwF w B v L) : ∃ A c, v = .slice A L.length c ∧ Fls w A c L := by
  have h' := h
  rcases h.2 with ⟨rfl, h0⟩ | ⟨g, cap, cur, rfl, hB, hg, hnc, hcm, hs, ht⟩
  · have e : L = [] := List.eq_nil_of_length_eq_zero h0
    subst e
    exact ⟨none, 0, rfl, Fls.nil _ _ _⟩
  · refine ⟨_, cap, rfl, hnc, fun _ => ⟨g, 0, rfl, (Array.getElem?_eq_some_iff.1 hg).1, fun j e hj k u hk => ?_⟩⟩
    have hjl : j < L.length := (List.getElem?_eq_some_iff.1 hj).1
    have hk7 : k < 2 := (List.getElem?_eq_some_iff.1 hk).1
    have := World.ownsRow.cellAt (cap := cap) h' (2 * j + k) (by omega)
    rw [Nat.zero_add, this, flat_at flC 2 flC_len L j k e hj hk7]
    exact hk
theorem OwF.below {w w' : World} {B : Nat} {v : Value} {L : List Fl} (h : OwF w B v L) {B' : Nat} (hb : Below B' w w') (hv : ∀ g, v.ownBlock = some g → g < B') : OwF w' B v L := by
  refine ⟨h.1, ?_⟩
  rcases h.2 with ⟨h1, h2⟩ | ⟨g, cap, cur, hv', h1, h2, h3⟩
  · exact .inl ⟨h1, h2⟩
  · exact .inr ⟨g, cap, cur, hv', h1, (hb.block g (hv g (by rw [hv']; rfl))).trans h2, h3⟩
theorem OwF.keep {w w' : World} {B : Nat} {v : Value} {L : List Fl} (h : OwF w B v L) (hb : Below w.heap.size w w') : OwF w' B v L := h.below hb fun g hg => (World.ownsRow.lt h g hg).2
theorem OwF.grown {w w' : World} {B : Nat} {v : Value} {L : List Fl} {r : Option Nat} (h : OwF w B v L) (hg : w.grownBy w' r) (hr : ∀ g, v.ownBlock = some g → some g ≠ r) : OwF w' B v L := by
  refine ⟨h.1, ?_⟩
  rcases h.2 with ⟨h1, h2⟩ | ⟨g, cap, cur, hv', h1, h2, h3⟩
  · exact .inl ⟨h1, h2⟩
  · exact .inr ⟨g, cap, cur, hv', h1, (hg.block g (Array.getElem?_eq_some_iff.1 h2).1 (hr g (by rw [hv']; rfl))).trans h2, h3⟩
theorem OwF.base {w : World} {B B' : Nat} {v : Value} {L : List Fl} (h : OwF w B v L) (hb : B' ≤ B) : OwF w B' v L :=
  ⟨h.1, h.2.imp id fun ⟨g, cap, cur, hv', h1, h2⟩ => ⟨g, cap, cur, hv', Nat.le_trans hb h1, h2⟩⟩
theorem OwF.drewN {w : World} {B : Nat} {v : Value} {L : List Fl} (h : OwF w B v L) (n : Nat) : OwF (w.drewN n) B v L := h
theorem OwF.drew {w : World} {B : Nat} {v : Value} {L : List Fl} (h : OwF w B v L) : OwF w.drew B v L := h
/-- a block of other cells is none of the row's -/
theorem OwF.ne {w : World} {B g : Nat} {t : TypeId} {cs : List Value} {v : Value} {L : List Fl} (hrow : Row w g t cs) (ht : t ≠ tF) (h : OwF w B v L) : ∀ b, v.ownBlock = some b → b ≠ g := by
  intro b hb e
  subst e
  rcases h.2 with ⟨rfl, _⟩ | ⟨g', cap, cur, rfl, _, hg', _⟩
  · cases hb
  · simp only [Value.ownBlock, Option.some.injEq] at hb
    subst hb
    unfold Row at hrow
    rw [hg'] at hrow
    simp only [Option.some.injEq, Obj.cells.injEq] at hrow
    exact ht hrow.2.1.symm
theorem infoFl : (Tryz.prog.info? 48).map (fun i => (i.zero, i.size, i.bytes)) = some (some (.agg #[.string ⟨#[]⟩, .string ⟨#[]⟩]), 2, 32) := by kernel_rfl
/-- the file number k, in a world behind -/
theorem Fls.at {w w' : World} {A : Option Addr} {c : Nat} {L : List Fl} (h : Fls w A c L) (hb : Below w.heap.size w w') {k : Nat} (hk : k < L.length) :
    ∃ b o f, A = some ⟨b, o, none⟩ ∧ b < w.heap.size ∧ L[k]? = some f ∧ L.drop k = f :: L.drop (k + 1) ∧ w'.cell? ⟨b, o + k * 2, none⟩ = some (.string ⟨f.path.toArray⟩) ∧ w'.cell? ⟨b, o + k * 2 + 1, none⟩ = some (.string ⟨f.text.toArray⟩) := by
  obtain ⟨b, o, rfl, hlt, he⟩ := h.2 (by omega)
  have h1 := he k _ (List.getElem?_eq_getElem hk)
  rw [Nat.mul_comm] at h1
  have h3 : ∀ i v, (flC L[k])[i]? = some v → w'.cell? ⟨b, o + k * 2 + i, none⟩ = some v := fun i v hi => (World.cell?_of_block (a := ⟨b, o + k * 2 + i, none⟩) (hb.block b hlt)).trans (h1 i v hi)
  exact ⟨b, o, _, rfl, hlt, List.getElem?_eq_getElem hk, List.drop_eq_getElem_cons hk, h3 0 _ rfl, h3 1 _ rfl⟩
section
variable {H : Type} {enc : TypeId × Value → H}
set_option maxRecDepth 100000 in
theorem open_files {W : World} {base : Nat} {v : Value} {d : DataW H} {ps : List MemPlace}
    (hval : Value.okWide Tryz.prog W .any base 22 v) (h : DataW.Trod enc Tryz.prog W 0 (fun _ => true) true 22 v d ps) :
    ∃ (L : List Fl) (A : Option Addr) (c : Nat), v = .slice A L.length c ∧ (Fls W A c L ∧ ∀ f ∈ L, f.path.length ≤ maxLen ∧ f.text.length ≤ maxLen) ∧ L.length ≤ maxLen := by
  obtain ⟨a1, len, cap, rfl⟩ := okWide_slice Tryz.underlying22 hval
  obtain ⟨fuel, hf⟩ := h
  rcases open_slice Tryz.underlying22 hf with ⟨hcs, _⟩ | ⟨a, len', cap', m, n, D, Pl, hcs, _, hl, hm, hmm, _, hi⟩
  · simp [Value.cells] at hcs
    obtain ⟨rfl, rfl, rfl⟩ := hcs
    exact ⟨[], none, 0, rfl, ⟨Fls.nil _ _ _, fun f hf => by cases hf⟩, Nat.zero_le _⟩
  · simp [Value.cells] at hcs
    obtain ⟨rfl, rfl, rfl⟩ := hcs
    simp only [if_true] at hmm
    subst hmm
    have hC : Tryz.prog.cellsOf 48 = 2 := by kernel_rfl
    have cS : Tryz.prog.cellsOf 9 = 1 := by kernel_rfl
    rw [hC] at hi
    have hel : ∀ i, i < len → ∃ e : Fl, ∀ k u, (flC e)[k]? = some u → W.cell? ((a.add (i * 2)).add k) = some u := by
      intro i hil
      obtain ⟨cs', hc, ht⟩ := hi i (by omega)
      obtain ⟨_, hcl, hat⟩ := World.cells?_some hc
      obtain ⟨y0, y1, n', _, _, h0, h1⟩ := trod_struct2 Tryz.underlying48 ht
      simp only [cS] at h0 h1
      obtain ⟨p, e0, _, hp⟩ := DataW.trod_string Tryz.underlying9 h0
      obtain ⟨x, e1, _, hx⟩ := DataW.trod_string Tryz.underlying9 h1
      have k0 := one_at _ _ _ e0
      have k1 := one_at _ _ _ e1
      refine ⟨⟨p.data.toList, x.data.toList⟩, fun k u hk => ?_⟩
      have hk2 : k < 2 := (List.getElem?_eq_some_iff.1 hk).1
      rw [hat k hk2]
      rcases k with _ | _ | k
      · rw [k0, ← hk]; rfl
      · rw [k1, ← hk]; rfl
      · omega
    have hlen : ∀ i, i < len → ∀ e : Fl, (∀ k u, (flC e)[k]? = some u → W.cell? ((a.add (i * 2)).add k) = some u) → e.path.length ≤ maxLen ∧ e.text.length ≤ maxLen := by
      intro i hil e he
      obtain ⟨cs', hc, ht⟩ := hi i (by omega)
      obtain ⟨_, hcl, hat⟩ := World.cells?_some hc
      obtain ⟨y0, y1, n', _, _, h0, h1⟩ := trod_struct2 Tryz.underlying48 ht
      simp only [cS] at h0 h1
      obtain ⟨p, e0, _, hp⟩ := DataW.trod_string Tryz.underlying9 h0
      obtain ⟨x, e1, _, hx⟩ := DataW.trod_string Tryz.underlying9 h1
      have k0 := one_at _ _ _ e0
      have k1 := one_at _ _ _ e1
      have g0 := he 0 _ rfl
      have g1 := he 1 _ rfl
      rw [hat 0 (by omega), k0] at g0
      rw [hat 1 (by omega), k1] at g1
      simp only [Option.some.injEq, Value.string.injEq] at g0 g1
      have q0 := congrArg ByteArray.size g0
      have q1 := congrArg ByteArray.size g1
      exact ⟨by rw [show e.path.length = (ByteArray.mk e.path.toArray).size from rfl, ← q0]; exact hp, by rw [show e.text.length = (ByteArray.mk e.text.toArray).size from rfl, ← q1]; exact hx⟩
    obtain ⟨L, hLl, hQ⟩ := list_of _ len hel
    refine ⟨L, some a, m, by rw [hLl], ⟨⟨by omega, fun hn => ?_⟩, fun f hf => ?_⟩, by omega⟩
    · obtain ⟨ab, ao, spot⟩ := a
      obtain ⟨e0, hc0⟩ := hel 0 (by omega)
      have hspot : spot = none := by simpa [Addr.add] using World.cell?_spot (hc0 0 _ rfl)
      subst hspot
      have hlt : ab < W.heap.size := by
        have := hc0 0 _ rfl
        rw [Addr.add_mid, Addr.add_mid] at this
        exact World.block_lt_of_cell? W _ this
      refine ⟨ab, ao, rfl, hlt, fun j e hj k u hk => ?_⟩
      have := hQ j e hj k u hk
      rw [Addr.add_mid, Addr.add_mid] at this
      rw [Nat.mul_comm 2 j]
      exact this
    · obtain ⟨j, hj⟩ := List.getElem?_of_mem hf
      exact hlen j (by rw [← hLl]; exact (List.getElem?_eq_some_iff.1 hj).1) f (hQ j f hj)
end
end Go.Proofs.YtahcokfoifdlmaaGreatDoor.Tr
namespace Go.Proofs.YtahcokfoifdlmaaGreatDoor.Tr
open Go Go.RowKit Kt Lw Li Lx Df

theorem agr {w w' : World} {b j : Nat} {v : Value} (h : w.cell? ⟨b, j, none⟩ = some v) (hb : Below w.heap.size w w') : w'.cell? ⟨b, j, none⟩ = some v :=
  (World.cell?_of_block (a := ⟨b, j, none⟩) (hb.block b (World.block_lt_of_cell? w ⟨b, j, none⟩ h))).trans h
/-- the path ahead of file k -/
def ahead (t : List Fl) (k : Nat) : Option Bs := if k = 0 then none else (t[k - 1]?).map (·.path)
theorem go_step {t : List Fl} {k : Nat} {f : Fl} (h : t[k]? = some f) (hd : t.drop k = f :: t.drop (k + 1)) : go (ahead t k) (t.drop k) = (can f.path && decide (f.text.length ≤ 65536) && above (ahead t k) f.path && go (ahead t (k + 1)) (t.drop (k + 1))) := by
  rw [hd, go]
  have e : ahead t (k + 1) = some f.path := by unfold ahead; rw [if_neg (by omega), Nat.add_sub_cancel, h]; rfl
  rw [e]
set_option maxRecDepth 100000 in
set_option maxHeartbeats 4000000 in
theorem rright_any (t : List Fl) (A : Option Addr) (c : Nat) (w : World) (hs : Fls w A c t) (hn : t.length ≤ 100000) (hm : ∀ f ∈ t, f.path.length ≤ 9223372036854775807) :
    Calls Tryz.prog 7 #[.slice A t.length c] w fun y w' => y = .returned (.bool (right t)) ∧ Below w.heap.size w w' := by
  have Hs := hide hs
  have Hm := hide hm
  obtain ⟨N, hN⟩ : ∃ N, N = t.length := ⟨_, rfl⟩
  rw [← hN] at hn ⊢
  have HN := hide hN
  have HR0 := hide (show right t = (go none t && decide ((N : Int) ≤ 1000)) by rw [hN]; unfold right; congr 1; rw [decide_eq_decide]; omega)
  clear hs hm hN
  go_enter Tryz.func7, Tryz.ntmps7
  go_wp2
  go_loopw [3] (fun i wr => ∃ k : Nat, k ≤ N ∧ i = .int .i64 k ∧ Hid (go none t = go (ahead t k) (t.drop k) ∧ (0 < k → ∃ g, t[k - 1]? = some g ∧ g.path.length ≤ 200)) ∧ Below w.heap.size w wr) (fun i _ => N - (intOf i).toNat)
  case atStart => exact ⟨0, Nat.zero_le _, rfl, by show Hid _; exact hide ⟨rfl, fun h => absurd h (by omega)⟩, Below.refl _ _⟩
  case round =>
    obtain ⟨k, hk, rfl, HR, hb⟩ := hrel
    have Hb := hide hb
    clear hb
    by_cases hlt : k < N
    · obtain ⟨b, o, f, rfl, hbl, hf, hd, d0, d1⟩ := Hs.out.at (w' := wr) Hb.out (k := k) (by have := HN.out; omega)
      have hstep := go_step hf hd
      have HP := hide (fun w => rpath_any f.path w (Hm.out f (List.mem_of_getElem? hf)))
      have HK := hide (show (0 < k → ∃ g, t[k - 1]? = some g ∧ g.path.length ≤ 200) from HR.out.2)
      rw [← HR.out.1] at hstep
      have Hf := hide hf
      obtain ⟨x, hx⟩ : ∃ x, x = f.text := ⟨_, rfl⟩
      obtain ⟨p, hp⟩ : ∃ p, p = f.path := ⟨_, rfl⟩
      rw [← hx] at d1 hstep
      rw [← hp] at d0 hstep HP
      have Hp := hide hp
      clear hx hp hf hd HR hbl
      by_cases hc : can p = true
      · rw [hc] at HP
        rw [hc, Bool.true_and] at hstep
        have hp2 : p.length ≤ 200 := by
          unfold can at hc
          rw [Bool.and_eq_true, decide_eq_true_eq] at hc
          exact hc.1
        by_cases hx : 65536 < x.length
        · rw [decide_eq_false (show ¬ x.length ≤ 65536 by omega), Bool.false_and, Bool.false_and] at hstep
          have Hr := hide hstep
          have dx : decide (65536 < (x.length : Int)) = true := decide_eq_true (by omega)
          have dx2 : decide (65536 < x.length) = true := decide_eq_true hx
          clear hstep hx hc hp2
          go_wp2_with fail
          refine (HP.out _).mono ?_
          rintro y w1 ⟨rfl, rfl⟩
          go_wp2
          go_ret
          exact ⟨by rw [HR0.out, Hr.out]; rfl, Hb.out⟩
        · rw [decide_eq_true (show x.length ≤ 65536 by omega), Bool.true_and] at hstep
          have dx : decide (65536 < (x.length : Int)) = false := decide_eq_false (by omega)
          have dx2 : decide (65536 < x.length) = false := decide_eq_false hx
          have Hstep := hide hstep
          clear hstep hx hc
          by_cases hk0 : k = 0
          · subst hk0
            simp only [Nat.zero_mul, Nat.add_zero] at d0 d1
            have Hnx := hide (show go none t = go (ahead t 1) (t.drop 1) by rw [Hstep.out, show above (ahead t 0) p = true from rfl, Bool.true_and])
            clear Hstep HK
            go_wp2_with fail
            refine (HP.out _).mono ?_
            rintro y w1 ⟨rfl, rfl⟩
            go_wp2
            refine Rg.wp_region_ord (fun w' => w' = w1.drew) [(0, true), (1, true), (2, true), (3, true), (4, true), (5, true), (6, true), (7, true), (8, true), (9, true), (10, true), (11, true), (12, true), (13, true), (14, true), (15, true), (16, true)] (by kernel_rfl) (by kernel_rfl) ?_
            simp only [Rg.pick, List.map_cons, List.map_nil, List.getD_cons_zero, List.getD_cons_succ]
            iterate 3 (refine Rg.ord_quiet (v := ?_) rfl (fun w' hS => ?_) rfl ?_; rotate_left; (subst hS; go_simp; with_reducible rfl); simp only [Act.put, List.setIfInBounds_toArray, List.set_cons_succ, List.set_cons_zero])
            iterate 13 (refine Rg.ord_passed (by rfl) rfl ?_; simp only [Act.put, List.setIfInBounds_toArray, List.set_cons_succ, List.set_cons_zero])
            iterate 1 (refine Rg.ord_quiet (v := ?_) rfl (fun w' hS => ?_) rfl ?_; rotate_left; (subst hS; go_simp; with_reducible rfl); simp only [Act.put, List.setIfInBounds_toArray, List.set_cons_succ, List.set_cons_zero])
            refine Rg.ord_nil ?_
            have Hbd := hide (Hb.out.drew)
            go_wp2
            exact ⟨⟨1, by omega, by go_num, by show Hid _; exact hide ⟨Hnx.out, fun _ => ⟨f, Hf.out, by rw [← Hp.out]; exact hp2⟩⟩, Hbd.out⟩, by simp [intOf]; omega⟩
          · obtain ⟨g, hg, hg2⟩ := HK.out (by omega)
            obtain ⟨km, hkm⟩ : ∃ z, z = k - 1 := ⟨_, rfl⟩
            rw [← hkm] at hg
            obtain ⟨b', o', g', hA, _, hg', _, k0, _⟩ := Hs.out.at (w' := wr) Hb.out (k := km) (by have := HN.out; omega)
            have e1 := hA
            simp only [Option.some.injEq, Addr.mk.injEq, and_true] at e1
            obtain ⟨rfl, rfl⟩ := e1
            rw [hg] at hg'
            simp only [Option.some.injEq] at hg'
            subst hg'
            have Hah := hide (show ahead t k = some g.path by unfold ahead; rw [if_neg hk0, ← hkm, hg]; rfl)
            obtain ⟨p0, hp0⟩ : ∃ z, z = g.path := ⟨_, rfl⟩
            rw [← hp0] at k0 Hah hg2
            have HLs := hide (fun w => rless_any p0 p w (by omega) (by omega))
            have hkw : IntKind.i64.wrap ((k : Int) - 1) = (km : Int) := by rw [IntWalk.i64_in _ (by omega)]; omega
            have hk1 : decide ((0 : Int) < (k : Int)) = true := decide_eq_true (by omega)
            have hk2 : (0 : Int) < (k : Int) := by omega
            have hk3 : decide (0 < k) = true := decide_eq_true (by omega)
            have hk4 : 0 < k := by omega
            have hkmN : km < N := by omega
            clear hkm hp0 hg hA HK hk0
            go_wp2_with fail
            refine (HP.out _).mono ?_
            rintro y w1 ⟨rfl, rfl⟩
            go_wp2
            have s0 : w1.drew.cell? ⟨b, o + km * 2, none⟩ = some (.string ⟨p0.toArray⟩) := k0
            have s1 : w1.drew.cell? ⟨b, o + k * 2, none⟩ = some (.string ⟨p.toArray⟩) := d0
            refine Rg.wp_region_ord (fun w' => w'.cell? ⟨b, o + km * 2, none⟩ = some (.string ⟨p0.toArray⟩) ∧ w'.cell? ⟨b, o + k * 2, none⟩ = some (.string ⟨p.toArray⟩)) [(0, true), (1, true), (2, true), (3, true), (4, true), (5, true), (6, true), (7, true), (8, true), (9, true), (10, true), (11, true), (12, true), (13, true), (14, false), (15, true), (16, true)] (by kernel_rfl) (by kernel_rfl) ?_
            simp only [Rg.pick, List.map_cons, List.map_nil, List.getD_cons_zero, List.getD_cons_succ]
            iterate 3 (refine Rg.ord_quiet (v := ?_) rfl (fun w' hS => ?_) ⟨s0, s1⟩ ?_; rotate_left; (obtain ⟨q0, q1⟩ := hS; go_simp; with_reducible rfl); simp only [Act.put, List.setIfInBounds_toArray, List.set_cons_succ, List.set_cons_zero])
            iterate 11 (refine Rg.ord_guarded (v := ?_) (by rfl) (fun w' hS => ?_) ⟨s0, s1⟩ ?_; rotate_left; (obtain ⟨q0, q1⟩ := hS; go_simp; with_reducible rfl); simp only [Act.put, List.setIfInBounds_toArray, List.set_cons_succ, List.set_cons_zero])
            refine Rg.ord_loud (by rfl) (fun K hK => ?_)
            go_simp
            refine (HLs.out _).mono ?_
            rintro y w2 ⟨rfl, hb2⟩
            refine hK _ _ (fun _ => ⟨agr s0 hb2, agr s1 hb2⟩) ?_
            clear hK K
            have r0 := agr s0 hb2
            have r1 := agr s1 hb2
            have Hb2 := hide (Hb.out.drew.trans (hb2.mono Hb.out.drew.size))
            clear hb2 s0 s1 k0 d0 d1
            cases hL : Op.bytesLess p0 p
            · have Hnx := hide (show go none t = false by rw [Hstep.out, Hah.out, show above (some p0) p = Op.bytesLess p0 p from rfl, hL, Bool.false_and])
              iterate 1 (refine Rg.ord_guarded (v := ?_) (by rfl) (fun w' hS => ?_) ⟨r0, r1⟩ ?_; rotate_left; (obtain ⟨q0, q1⟩ := hS; go_simp; with_reducible rfl); simp only [Act.put, List.setIfInBounds_toArray, List.set_cons_succ, List.set_cons_zero])
              iterate 1 (refine Rg.ord_quiet (v := ?_) rfl (fun w' hS => ?_) ⟨r0, r1⟩ ?_; rotate_left; (obtain ⟨q0, q1⟩ := hS; go_simp; with_reducible rfl); simp only [Act.put, List.setIfInBounds_toArray, List.set_cons_succ, List.set_cons_zero])
              refine Rg.ord_nil ?_
              clear r0 r1 hL
              go_wp2
              go_ret
              exact ⟨by rw [HR0.out, Hnx.out]; rfl, Hb2.out⟩
            · have Hnx := hide (show go none t = go (ahead t (k + 1)) (t.drop (k + 1)) by rw [Hstep.out, Hah.out, show above (some p0) p = Op.bytesLess p0 p from rfl, hL, Bool.true_and])
              iterate 1 (refine Rg.ord_guarded (v := ?_) (by rfl) (fun w' hS => ?_) ⟨r0, r1⟩ ?_; rotate_left; (obtain ⟨q0, q1⟩ := hS; go_simp; with_reducible rfl); simp only [Act.put, List.setIfInBounds_toArray, List.set_cons_succ, List.set_cons_zero])
              iterate 1 (refine Rg.ord_quiet (v := ?_) rfl (fun w' hS => ?_) ⟨r0, r1⟩ ?_; rotate_left; (obtain ⟨q0, q1⟩ := hS; go_simp; with_reducible rfl); simp only [Act.put, List.setIfInBounds_toArray, List.set_cons_succ, List.set_cons_zero])
              refine Rg.ord_nil ?_
              clear r0 r1 hL hk1 hk2 hk3 hk4 hkw
              go_wp2
              exact ⟨⟨k + 1, by omega, by go_num, by show Hid _; exact hide ⟨Hnx.out, fun _ => ⟨f, Hf.out, by rw [← Hp.out]; exact hp2⟩⟩, Hb2.out⟩, by simp [intOf]; omega⟩
      · have hcf : can p = false := by simpa using hc
        rw [hcf] at HP
        rw [hcf, Bool.false_and, Bool.false_and, Bool.false_and] at hstep
        have Hr := hide hstep
        clear hstep hc hcf
        go_wp2_with fail
        refine (HP.out _).mono ?_
        rintro y w1 ⟨rfl, rfl⟩
        go_wp2
        go_ret
        exact ⟨by rw [HR0.out, Hr.out]; rfl, Hb.out⟩
    · obtain rfl : k = N := by omega
      have Hr := hide (show go none t = true by rw [HR.out.1, HN.out, List.drop_length]; rfl)
      clear HR
      go_wp2
      go_ret
      exact ⟨by rw [HR0.out, Hr.out, Bool.true_and]; rfl, Hb.out⟩
end Go.Proofs.YtahcokfoifdlmaaGreatDoor.Tr
namespace Go.Proofs.YtahcokfoifdlmaaGreatDoor.Tr
open Go Go.RowKit Kt Lw Li Lx Df

theorem run_ne_file (f g : Fl) (w : World) : (binOp .neq tF (.agg #[.string ⟨f.path.toArray⟩, .string ⟨f.text.toArray⟩]) (.agg #[.string ⟨g.path.toArray⟩, .string ⟨g.text.toArray⟩])).run Tryz.prog w = .ok (.bool (decide (f ≠ g))) w := by
  have hu := Tryz.underlying48
  have hs := Tryz.underlying9
  have c1 : Tryz.prog.cellsOf 9 = 1 := by kernel_rfl
  rw [run_neq_struct, run_equalIn_struct _ _ _ _ _ (by unfold Program.fieldsOf; rw [hu]) (by kernel_rfl)]
  unfold Program.fieldsOf
  rw [hu]
  simp [go_sem, Op.eqFields, hs]
  obtain ⟨p, x⟩ := f
  obtain ⟨q, y⟩ := g
  by_cases h1 : p = q
  · by_cases h2 : x = y <;> simp [h1, h2]
  · simp [h1]
set_option maxRecDepth 100000 in
set_option maxHeartbeats 2000000 in
theorem same_any (t u : List Fl) (A A' : Option Addr) (c c' : Nat) (w : World) (hs : Fls w A c t) (hs' : Fls w A' c' u) (hn : t.length ≤ 1000000) :
    Calls Tryz.prog 11 #[.slice A t.length c, .slice A' u.length c'] w fun y w' => y = .returned (.bool (decide (t = u))) ∧ Below w.heap.size w w' := by
  by_cases hlen : t.length = u.length
  · have Hs := hide hs
    have Hs' := hide hs'
    obtain ⟨N, hN⟩ : ∃ N, N = t.length := ⟨_, rfl⟩
    have hN' : N = u.length := by omega
    rw [← hlen, ← hN]
    rw [← hN] at hn
    have HN := hide hN
    have HN' := hide hN'
    clear hs hs' hN hN' hlen
    go_enter Tryz.func11, Tryz.ntmps11
    go_wp2
    go_loopw [5] (fun i wr => ∃ k : Nat, k ≤ N ∧ i = .int .i64 k ∧ Hid (decide (t = u) = decide (t.drop k = u.drop k)) ∧ Below w.heap.size w wr) (fun i _ => N - (intOf i).toNat)
    case atStart => exact ⟨0, Nat.zero_le _, rfl, by show Hid _; exact hide rfl, Below.refl _ _⟩
    case round =>
      obtain ⟨k, hk, rfl, HR, hb⟩ := hrel
      have Hb := hide hb
      clear hb
      by_cases hlt : k < N
      · obtain ⟨b, o, f, rfl, hbl, hf, hd, d0, d1⟩ := Hs.out.at (w' := wr) Hb.out (k := k) (by have := HN.out; omega)
        obtain ⟨b', o', g, rfl, hbl', hg, hd', e0, e1⟩ := Hs'.out.at (w' := wr) Hb.out (k := k) (by have := HN'.out; omega)
        have hr := HR.out
        rw [hd, hd'] at hr
        have hne := fun w => run_ne_file f g w
        obtain ⟨x, hx⟩ : ∃ x, x = f.text := ⟨_, rfl⟩
        obtain ⟨p, hp⟩ : ∃ p, p = f.path := ⟨_, rfl⟩
        obtain ⟨y, hy⟩ : ∃ y, y = g.text := ⟨_, rfl⟩
        obtain ⟨q, hq⟩ : ∃ q, q = g.path := ⟨_, rfl⟩
        rw [← hx] at d1
        rw [← hp] at d0
        rw [← hy] at e1
        rw [← hq] at e0
        rw [← hx, ← hp, ← hy, ← hq] at hne
        clear hx hp hy hq hf hg hd hd' HR hbl hbl'
        by_cases he : f = g
        · rw [decide_eq_false (show ¬ f ≠ g from fun h => h he)] at hne
          have Hr := hide (show decide (t = u) = decide (t.drop (k + 1) = u.drop (k + 1)) by rw [hr, he]; simp)
          clear hr he
          go_wp2
          go_quiet (fail)
          go_wp2
          exact ⟨⟨k + 1, by omega, by go_num, by show Hid _; exact hide Hr.out, below_drewN Hb.out _⟩, by simp [intOf]; omega⟩
        · rw [decide_eq_true (show f ≠ g from he)] at hne
          have Hr := hide (show decide (t = u) = false by rw [hr, decide_eq_false_iff_not]; intro h; exact he (List.cons.inj h).1)
          clear hr he
          go_wp2
          go_quiet (fail)
          go_wp2
          go_ret
          exact ⟨by rw [Hr.out]; rfl, below_drewN Hb.out _⟩
      · obtain rfl : k = N := by omega
        have Hr := hide (show decide (t = u) = true by
          rw [HR.out, decide_eq_true_iff, List.drop_of_length_le (by have := HN.out; omega), List.drop_of_length_le (by have := HN'.out; omega)])
        clear HR
        go_wp2
        go_ret
        exact ⟨by rw [Hr.out]; rfl, Hb.out⟩
  · have Hr := hide (show decide (t = u) = false from decide_eq_false fun h => hlen (by rw [h]))
    obtain ⟨N, hN⟩ : ∃ N, N = t.length := ⟨_, rfl⟩
    obtain ⟨M, hM⟩ : ∃ N, N = u.length := ⟨_, rfl⟩
    rw [← hN, ← hM] at hlen ⊢
    have d1 : ((N : Int) != (M : Int)) = true := by rw [bne_iff_ne]; omega
    have d2 : (N != M) = true := by rw [bne_iff_ne]; exact hlen
    clear hs hs' hn hN hM
    go_enter Tryz.func11, Tryz.ntmps11
    go_wp2
    go_ret
    exact ⟨by rw [Hr.out]; rfl, Below.refl _ _⟩
end Go.Proofs.YtahcokfoifdlmaaGreatDoor.Tr
namespace Go.Proofs.YtahcokfoifdlmaaGreatDoor.Tr
open Go Go.RowKit Kt Lw Li Lx Df

def sizes : List Fl → Nat
  | [] => 0
  | f :: t => min f.path.length 1000 + min f.text.length 1000 + sizes t
theorem sizes_snoc : ∀ (t : List Fl) (f : Fl), sizes (t ++ [f]) = sizes t + min f.path.length 1000 + min f.text.length 1000
  | [], f => by simp [sizes]
  | g :: t, f => by rw [List.cons_append, sizes, sizes, sizes_snoc t f]; omega
theorem sizes_le : ∀ t : List Fl, sizes t ≤ t.length * 2000
  | [] => by simp [sizes]
  | f :: t => by
    have := sizes_le t
    rw [sizes, List.length_cons]; omega
def fewB (t : List Fl) : Bool := decide (t.length ≤ 12) && decide (sizes (t.take 20) ≤ 600)
theorem take_snocF {t : List Fl} {k : Nat} {f : Fl} (h : t[k]? = some f) : t.take (k + 1) = t.take k ++ [f] := by
  obtain ⟨hk, e⟩ := List.getElem?_eq_some_iff.1 h
  rw [List.take_succ_eq_append_getElem hk, e]
theorem sizes_mem : ∀ {t : List Fl} {f : Fl}, f ∈ t → min f.path.length 1000 + min f.text.length 1000 ≤ sizes t
  | g :: t, f, h => by
    rw [sizes]
    rcases List.mem_cons.1 h with rfl | h
    · omega
    · have := sizes_mem h; omega
/-- files of a size that is looked at -/
theorem few_is {t : List Fl} (h : fewB t = true) : t.length ≤ 12 ∧ ∀ f ∈ t, f.path.length + f.text.length ≤ 600 := by
  unfold fewB at h
  rw [Bool.and_eq_true, decide_eq_true_eq, decide_eq_true_eq] at h
  obtain ⟨h1, h2⟩ := h
  rw [List.take_of_length_le (by omega)] at h2
  exact ⟨h1, fun f hf => by have := sizes_mem hf; omega⟩
set_option maxRecDepth 100000 in
set_option maxHeartbeats 2000000 in
theorem few_any (t : List Fl) (A : Option Addr) (c : Nat) (w : World) (hs : Fls w A c t) :
    Calls Tryz.prog 5 #[.slice A t.length c] w fun y w' => y = .returned (.bool (fewB t)) ∧ Below w.heap.size w w' := by
  have Hs := hide hs
  obtain ⟨N, hN⟩ : ∃ N, N = t.length := ⟨_, rfl⟩
  rw [← hN]
  have HN := hide hN
  have HF := hide (show fewB t = (decide ((N : Int) ≤ 12) && decide ((sizes (t.take 20) : Int) ≤ 600)) by
    rw [hN]; unfold fewB
    rw [decide_eq_decide.2 (show t.length ≤ 12 ↔ (t.length : Int) ≤ 12 by omega), decide_eq_decide.2 (show sizes (t.take 20) ≤ 600 ↔ (sizes (t.take 20) : Int) ≤ 600 by omega)])
  clear hs hN
  go_enter Tryz.func5, Tryz.ntmps5
  go_wp2
  go_loopw [3, 4] (fun s i wr => ∃ k : Nat, k ≤ N ∧ k ≤ 20 ∧ i = .int .i64 k ∧ s = .int .i64 (sizes (t.take k) : Nat) ∧ Below w.heap.size w wr) (fun _ i _ => N - (intOf i).toNat)
  case atStart => exact ⟨0, Nat.zero_le _, by omega, rfl, rfl, Below.refl _ _⟩
  case round =>
    obtain ⟨k, hk, hk20, rfl, rfl, hb⟩ := hrel
    have Hb := hide hb
    clear hb
    by_cases hlt : k < N ∧ k < 20
    · obtain ⟨hlt, hlt2⟩ := hlt
      obtain ⟨b, o, f, rfl, hbl, hf, hd, d0, d1⟩ := Hs.out.at (w' := wr) Hb.out (k := k) (by have := HN.out; omega)
      have hsz := sizes_snoc (t.take k) f
      rw [← take_snocF hf] at hsz
      have hle := sizes_le (t.take k)
      have hle2 := List.length_take_le k t
      obtain ⟨S, hS⟩ : ∃ S, S = sizes (t.take k) := ⟨_, rfl⟩
      rw [← hS] at hsz hle ⊢
      have hS6 : S ≤ 40000 := by omega
      obtain ⟨x, hx⟩ : ∃ x, x = f.text := ⟨_, rfl⟩
      obtain ⟨p, hp⟩ : ∃ p, p = f.path := ⟨_, rfl⟩
      rw [← hx] at d1 hsz
      rw [← hp] at d0 hsz
      obtain ⟨m, hm⟩ : ∃ m, m = min p.length 1000 := ⟨_, rfl⟩
      obtain ⟨j, hj⟩ : ∃ j, j = min x.length 1000 := ⟨_, rfl⟩
      rw [← hm, ← hj] at hsz
      obtain ⟨s1, hs1⟩ : ∃ s1, s1 = S + m := ⟨_, rfl⟩
      obtain ⟨s2, hs2⟩ : ∃ s2, s2 = s1 + j := ⟨_, rfl⟩
      have Hsz := hide (show sizes (t.take (k + 1)) = s2 by omega)
      have c1 : (if (1000 : Int) < (p.length : Int) then (1000 : Int) else (p.length : Int)) = (m : Int) := by split <;> omega
      have c2 : (if (1000 : Int) < (x.length : Int) then (1000 : Int) else (x.length : Int)) = (j : Int) := by split <;> omega
      have c3 : (if 1000 < p.length then (1000 : Int) else (p.length : Int)) = (m : Int) := by split <;> omega
      have c4 : (if 1000 < x.length then (1000 : Int) else (x.length : Int)) = (j : Int) := by split <;> omega
      have w1 : IntKind.i64.wrap ((S : Int) + (m : Int)) = (s1 : Int) := by rw [IntWalk.i64_in _ (by omega)]; omega
      have w2 : IntKind.i64.wrap ((s1 : Int) + (j : Int)) = (s2 : Int) := by rw [IntWalk.i64_in _ (by omega)]; omega
      have k1 : decide ((k : Int) < (N : Int)) = true := decide_eq_true (by omega)
      have k2 : decide ((k : Int) < 20) = true := decide_eq_true (by omega)
      have k3 : decide (k < N) = true := decide_eq_true hlt
      have k4 : decide (k < 20) = true := decide_eq_true hlt2
      clear hx hp hm hj hs1 hs2 hS hf hd hbl hle hle2 hsz
      go_wp2
      have s0 : wr.drew.cell? ⟨b, o + k * 2, none⟩ = some (.string ⟨p.toArray⟩) := d0
      have s1' : wr.drew.cell? ⟨b, o + k * 2 + 1, none⟩ = some (.string ⟨x.toArray⟩) := d1
      refine Rg.wp_region_ord (fun w' => w'.cell? ⟨b, o + k * 2, none⟩ = some (.string ⟨p.toArray⟩) ∧ w'.cell? ⟨b, o + k * 2 + 1, none⟩ = some (.string ⟨x.toArray⟩)) [(0, true), (1, true), (2, true), (3, true), (4, true), (5, true), (6, true), (7, true), (8, true), (9, true), (10, true), (11, true), (12, true), (13, true), (14, true), (15, true), (16, true), (17, true)] (by kernel_rfl) (by kernel_rfl) ?_
      simp only [Rg.pick, List.map_cons, List.map_nil, List.getD_cons_zero, List.getD_cons_succ]
      iterate 18 (refine Rg.ord_quiet (v := ?_) rfl (fun w' hS => ?_) ⟨s0, s1'⟩ ?_; rotate_left; (obtain ⟨q0, q1⟩ := hS; go_simp; with_reducible rfl); simp only [Act.put, List.setIfInBounds_toArray, List.set_cons_succ, List.set_cons_zero])
      refine Rg.ord_nil ?_
      have Hbd := hide Hb.out.drew
      clear s0 s1' d0 d1 c1 c2 c3 c4 w1 w2
      go_wp2
      exact ⟨⟨k + 1, by omega, by omega, by go_num, by rw [Hsz.out], Hbd.out⟩, by simp [intOf]; omega⟩
    · have Hsz := hide (show sizes (t.take k) = sizes (t.take 20) by
        by_cases h20 : k = 20
        · rw [h20]
        · rw [List.take_of_length_le (by have := HN.out; omega), List.take_of_length_le (by have := HN.out; omega)])
      rw [Hsz.out]
      obtain ⟨S, hS⟩ : ∃ S, S = sizes (t.take 20) := ⟨_, rfl⟩
      rw [← hS] at HF ⊢
      clear hS Hsz
      by_cases hkN : k < N
      · have k1 : decide ((k : Int) < (N : Int)) = true := decide_eq_true (by omega)
        have k2 : decide ((k : Int) < 20) = false := decide_eq_false (by omega)
        have k3 : decide (k < N) = true := decide_eq_true hkN
        have k4 : decide (k < 20) = false := decide_eq_false (by omega)
        have n1 : decide ((N : Int) ≤ 12) = false := decide_eq_false (by omega)
        rw [n1, Bool.false_and] at HF
        clear hlt
        go_wp2
        go_ret
        exact ⟨by rw [HF.out]; rfl, Hb.out⟩
      · have k1 : decide ((k : Int) < (N : Int)) = false := decide_eq_false (by omega)
        have k3 : decide (k < N) = false := decide_eq_false hkN
        clear hlt
        by_cases h12 : N ≤ 12
        · have n1 : decide ((N : Int) ≤ 12) = true := decide_eq_true (by omega)
          have n2 : decide (N ≤ 12) = true := decide_eq_true h12
          rw [n1, Bool.true_and] at HF
          by_cases h6 : S ≤ 600
          · have n3 : decide ((S : Int) ≤ 600) = true := decide_eq_true (by omega)
            have n4 : decide (S ≤ 600) = true := decide_eq_true h6
            rw [n3] at HF
            go_wp2
            go_ret
            exact ⟨by rw [HF.out]; rfl, Hb.out⟩
          · have n3 : decide ((S : Int) ≤ 600) = false := decide_eq_false (by omega)
            have n4 : decide (S ≤ 600) = false := decide_eq_false h6
            rw [n3] at HF
            go_wp2
            go_ret
            exact ⟨by rw [HF.out]; rfl, Hb.out⟩
        · have n1 : decide ((N : Int) ≤ 12) = false := decide_eq_false (by omega)
          have n2 : decide (N ≤ 12) = false := decide_eq_false h12
          rw [n1, Bool.false_and] at HF
          go_wp2
          go_ret
          exact ⟨by rw [HF.out]; rfl, Hb.out⟩
end Go.Proofs.YtahcokfoifdlmaaGreatDoor.Tr
namespace Go.Proofs.YtahcokfoifdlmaaGreatDoor.Tr
open Go Wr

def fFl (f : Fl) : Bs := form f.path.length ++ (f.path ++ (form f.text.length ++ f.text))
def enc (t : List Fl) : Bs := form t.length ++ t.flatMap fFl
end Go.Proofs.YtahcokfoifdlmaaGreatDoor.Tr
namespace Go.Proofs.YtahcokfoifdlmaaGreatDoor.Tr
open Go Go.RowKit Kt Lw Li Lx Df Wr

theorem conv_txt (s : List UInt8) (w : World) : ∃ cap ob, (convert 9 39 (.string ⟨s.toArray⟩)).run Tryz.prog w = .ok (.slice (some ⟨w.heap.size, 0, none⟩) s.length cap) (w.drew.alloc ob) ∧ Sl (w.drew.alloc ob) (fun _ => True) (some ⟨w.heap.size, 0, none⟩) cap s := by
  refine ⟨_, _, run_bytes_of_string w 9 39 5 ⟨s.toArray⟩ Tryz.underlying9 Tryz.underlying39 Tryz.underlying5, ?_, fun hn => ⟨_, 0, rfl, trivial, fun j hj => ?_⟩⟩
  · have := grownCap_ge w (ByteArray.size ⟨s.toArray⟩) 0 5
    simpa [ByteArray.size] using this
  · rw [Nat.zero_add, cell_of_row _ w.heap.size j _ _ _ (heap_alloc_new w.drew _), bytesRow_at _ _ _ (by simpa using hj)]
    simp [List.getElem?_eq_getElem hj]
theorem own_based {w : World} {B B' : Nat} {E : TypeId} {v : Value} {l : List UInt8} (h : Own w B E v l) (hb : B' ≤ B) : Own w B' E v l :=
  ⟨h.1, h.2.imp id fun ⟨g, cap, cur, hv, h1, h2⟩ => ⟨g, cap, cur, hv, Nat.le_trans hb h1, h2⟩⟩
theorem form_ten {n : Nat} (h : n < 18446744073709551616) : (form n).length ≤ 10 := form_short n 10 (by omega) (by omega)
end Go.Proofs.YtahcokfoifdlmaaGreatDoor.Tr
namespace Go.Proofs.YtahcokfoifdlmaaGreatDoor.Tr
open Go Go.RowKit Kt Lw Li Lx Df Wr

/-- what holds of an operation's value once it is done -/
def PhiX (p x : Bs) (g B : Nat) : Nat → Value → World → Prop
  | 0, v, _ => v = .pointer (some ⟨g, 0, none⟩)
  | 1, v, _ => v = .string ⟨p.toArray⟩
  | 2, v, w => Is w (fun _ => True) v p
  | 3, v, w => Is w (fun _ => True) v (form p.length ++ p)
  | 4, v, _ => v = .pointer (some ⟨g, 1, none⟩)
  | 5, v, _ => v = .string ⟨x.toArray⟩
  | 6, v, w => Is w (fun _ => True) v x
  | 7, v, w => Own w B 5 v (fFl ⟨p, x⟩)
  | _, _, _ => True
theorem PhiX.keep {p x : Bs} {g B k : Nat} {v : Value} {w w' : World} (h : PhiX p x g B k v w) (hb : Below w.heap.size w w') : PhiX p x g B k v w' := by
  unfold PhiX at h ⊢
  split at h <;> first | exact h | exact h.below hb | exact h.kept hb
def updX (v : Nat → Value) (k : Nat) (x : Value) : Nat → Value := fun j => if j = k then x else v j
theorem updX_same (v : Nat → Value) (k : Nat) (x : Value) : updX v k x k = x := if_pos rfl
theorem updX_other (v : Nat → Value) (k : Nat) (x : Value) (j : Nat) (h : j ≠ k) : updX v k x j = v j := if_neg h
theorem repX_false (n k : Nat) : (Array.replicate n false).getD k false = false := by
  unfold Array.getD
  split
  · simp
  · rfl
/-- what holds of all that is done so far -/
structure DnX (p x : Bs) (g B : Nat) (w1 : World) (listed : Array Bool) (v : Nat → Value) (x2 : Value) (w : World) : Prop where
  low : Below w1.heap.size w1 w
  phi : ∀ k, k < 8 → listed.getD k false = true → PhiX p x g B k (v (k + 3)) w
  fin : listed.getD 8 false = true → Own w B 5 x2 (fFl ⟨p, x⟩)
theorem DnX.step {p x : Bs} {g B : Nat} {w1 : World} {listed : Array Bool} {v : Nat → Value} {x2 : Value} {w : World} (h : DnX p x g B w1 listed v x2 w) (k : Nat) (hk : k < 8) {nv : Value} {w' : World} (hb : Below w.heap.size w w') (hn : PhiX p x g B k nv w') :
    DnX p x g B w1 (listed.setIfInBounds k true) (updX v (k + 3) nv) x2 w' := by
  refine ⟨h.low.trans (hb.mono h.low.size), fun j hj hl => ?_, fun hl => ?_⟩
  · by_cases e : j = k
    · subst e; rw [updX_same]; exact hn
    · rw [updX_other _ _ _ _ (by omega)]
      rw [getD_set_ne false (fun h => e h.symm)] at hl
      exact (h.phi j hj hl).keep hb
  · rw [getD_set_ne false (by omega)] at hl
    exact (h.fin hl).kept hb
theorem DnX.last {p x : Bs} {g B : Nat} {w1 : World} {listed : Array Bool} {v : Nat → Value} {x2 : Value} {w : World} (h : DnX p x g B w1 listed v x2 w) {nv : Value} (hn : Own w B 5 nv (fFl ⟨p, x⟩)) :
    DnX p x g B w1 (listed.setIfInBounds 8 true) v nv w :=
  ⟨h.low, fun j hj hl => h.phi j hj (by rw [getD_set_ne false (by omega)] at hl; exact hl), fun _ => hn⟩
end Go.Proofs.YtahcokfoifdlmaaGreatDoor.Tr
namespace Go.Proofs.YtahcokfoifdlmaaGreatDoor.Kf
open Go

def findR (n : Nat) : Code → Option Code
  | .seq a b => (findR n a).or (findR n b)
  | .block _ b => findR n b
  | .loop b => findR n b
  | .cond _ a b => (findR n a).or (findR n b)
  | .region m ops dr => if m = n then some (.region m ops dr) else none
  | _ => none
end Go.Proofs.YtahcokfoifdlmaaGreatDoor.Kf
