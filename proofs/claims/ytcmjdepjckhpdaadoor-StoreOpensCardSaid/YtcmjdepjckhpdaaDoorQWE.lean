/-
  What wire.number comes to.
-/
import Derived.Test.YtcmjdepjckhpdaaDoorQWD
import Derived.Test.YtcmjdepjckhpdaaDoorQZB

namespace Go.Proofs.YtcmjdepjckhpdaaDoor.Wr
open Go Go.RowKit Kt

theorem pow_seven (k : Nat) : 128 ^ k = 2 ^ (7 * k) := by rw [show (128 : Nat) = 2 ^ 7 from rfl, ← Nat.pow_mul]
/-- what a byte more makes of the number, in the machine's words -/
theorem or_step (m x k : Nat) (hm : m < 128 ^ k) (hk : k ≤ 9) :
    ∃ q : Nat, bits BinOp.or IntKind.u64 (m : Int) (IntKind.u64.wrap ((x : Int) % 128 * 2 ^ (7 * k))) = (q : Int) ∧ q < 18446744073709551616 ∧ (k ≤ 8 ∨ x ≤ 1 → q = m + 128 ^ k * (x % 128)) := by
  have e1 : IntKind.u64.wrap ((x : Int) % 128 * 2 ^ (7 * k)) = ((x % 128 * 128 ^ k % 18446744073709551616 : Nat) : Int) := by
    rw [IntKind.wrap_u64, pow_seven, Int.natCast_emod, Int.natCast_mul, Int.natCast_emod, Int.natCast_pow]
    rfl
  have hp : 128 ^ k ≤ 128 ^ 9 := Nat.pow_le_pow_right (by omega) hk
  have hmod := Nat.mod_lt (x % 128 * 128 ^ k) (show 0 < 18446744073709551616 by omega)
  rw [e1, u64_or_nat m _ (by omega) hmod]
  refine ⟨_, rfl, Nat.or_lt_two_pow (n := 64) (by omega) hmod, fun h => ?_⟩
  have hlt : x % 128 * 128 ^ k < 18446744073709551616 := by
    rcases h with h | h
    · have hp8 : 128 ^ k ≤ 128 ^ 8 := Nat.pow_le_pow_right (by omega) h
      have := Nat.mul_le_mul (show x % 128 ≤ 127 by omega) hp8
      omega
    · have := Nat.mul_le_mul (show x % 128 ≤ 1 by omega) hp
      omega
  rw [Nat.mod_eq_of_lt hlt, Nat.or_comm, Nat.mul_comm, pow_seven]
  rw [pow_seven] at hm
  rw [nat_join (7 * k) _ _ (Nat.mul_mod_right _ _) hm, Nat.add_comm]

theorem num_ok (bs : List UInt8) (k : Nat) (h : lead bs = k) (h9 : k < 10) (hk : k < bs.length) (hx : ¬ ((0 < k ∧ (bs.getD k 0).toNat = 0) ∨ (k = 9 ∧ 1 < (bs.getD k 0).toNat))) : numOf bs = (val (bs.take (k + 1)), k + 1, 0) := by
  unfold numOf
  rw [h, if_neg (by omega), if_neg (by omega), if_neg hx]
theorem num_form (bs : List UInt8) (k : Nat) (h : lead bs = k) (h9 : k < 10) (hk : k < bs.length) (hx : (0 < k ∧ (bs.getD k 0).toNat = 0) ∨ (k = 9 ∧ 1 < (bs.getD k 0).toNat)) : numOf bs = (0, 0, 3) := by
  unfold numOf
  rw [h, if_neg (by omega), if_neg (by omega), if_pos hx]
theorem num_short (bs : List UInt8) (h : ∀ j, j < bs.length → 128 ≤ (bs.getD j 0).toNat) (h9 : bs.length < 10) : numOf bs = (0, 0, 2) := by
  unfold numOf
  rw [lead_all bs h, if_neg (by omega), if_pos rfl]
theorem num_long (bs : List UInt8) (h : ∀ j, j < 10 → 128 ≤ (bs.getD j 0).toNat) (h9 : 10 ≤ bs.length) : numOf bs = (0, 0, 3) := by
  unfold numOf
  have : 10 ≤ lead bs := by
    rcases Nat.lt_or_ge (lead bs) 10 with h1 | h1
    · have := lead_stop bs (by omega)
      have := h _ h1
      omega
    · exact h1
  rw [if_pos this]

def numV (r : Nat × Nat × Nat) : Value := .tuple #[.int .u64 r.1, .int .i64 r.2.1, .int .i64 r.2.2]

set_option maxHeartbeats 1000000 in
set_option maxRecDepth 100000 in
theorem number_any (bs : List UInt8) (A : Option Addr) (c : Nat) (Pb : Nat → Prop) (w : World) (hs : Sl w Pb A c bs) (hl : bs.length ≤ 70368744177664) :
    Calls Tryd.prog 72 #[.slice A bs.length c] w fun e w' => e = .returned (numV (numOf bs)) ∧ w = w' := by
  have hc := hs.1
  by_cases h0 : bs = []
  · subst h0
    have e : numOf [] = (0, 0, 2) := by decide
    cases A with
    | none =>
      go_enter Tryd.func72, Tryd.ntmps72
      go_wp2
      go_loopw [5, 14] (fun n i wr => i = .int .i64 (0 : Nat) ∧ w = wr) (fun _ _ _ => 0)
      case atStart => exact ⟨rfl, rfl⟩
      case round =>
        obtain ⟨rfl, rfl⟩ := hrel
        go_wp2
        go_ret3
        exact ⟨by rw [e]; rfl, rfl⟩
    | some ad =>
      go_enter Tryd.func72, Tryd.ntmps72
      go_wp2
      go_loopw [5, 14] (fun n i wr => i = .int .i64 (0 : Nat) ∧ w = wr) (fun _ _ _ => 0)
      case atStart => exact ⟨rfl, rfl⟩
      case round =>
        obtain ⟨rfl, rfl⟩ := hrel
        go_wp2
        go_ret3
        exact ⟨by rw [e]; rfl, rfl⟩
  · obtain ⟨b, o, rfl, _, hcell⟩ := hs.2 (List.length_pos_iff.2 h0)
    have hpos : 0 < bs.length := List.length_pos_iff.2 h0
    have Hcell := hide hcell
    clear hcell hs
    obtain ⟨N, hN⟩ : ∃ N, N = bs.length := ⟨_, rfl⟩
    rw [← hN] at hc hl hpos
    obtain ⟨M, hM, hM2⟩ : ∃ M : Nat, (if (10 : Int) < (N : Int) then (10 : Int) else (N : Int)) = (M : Int) ∧ M = min 10 N := by
      refine ⟨min 10 N, ?_, rfl⟩
      split <;> omega
    have hMN : M ≤ N := by omega
    have hM10 : M ≤ 10 := by omega
    have HM := hide hM2
    clear hM2
    rw [← hN]
    have HN := hide hN
    clear hN
    go_enter Tryd.func72, Tryd.ntmps72
    go_wp2
    go_loopw [5, 14] (fun n i wr => ∃ k m : Nat, k ≤ M ∧ i = .int .i64 k ∧ n = .int .u64 m ∧ (∀ j, j < k → 128 ≤ (bs.getD j 0).toNat) ∧ (k ≤ 9 → m = val (bs.take k)) ∧ m < 18446744073709551616 ∧ w = wr) (fun _ i _ => M - (intOf i).toNat)
    case atStart => exact ⟨0, 0, Nat.zero_le _, rfl, rfl, fun j h => absurd h (Nat.not_lt_zero _), fun _ => rfl, by omega, rfl⟩
    case round =>
      obtain ⟨k, m, hk, rfl, rfl, hall, hval, hm, rfl⟩ := hrel
      have Hall := hide hall
      have Hval := hide hval
      have Hm := hide hm
      clear hall hval hm
      by_cases hlt : k < M
      · have hck := Hcell.out k (by have := HN.out; omega)
        obtain ⟨x, hx⟩ : ∃ x, x = (bs.getD k 0).toNat := ⟨_, rfl⟩
        rw [← hx] at hck
        have hx8 : x < 256 := by rw [hx]; exact toNat_lt _
        have Hx := hide hx
        clear hx
        have hmv : m = val (bs.take k) := Hval.out (by omega)
        have hkl : k < bs.length := by have := HN.out; omega
        have hml := val_lt (bs.take k)
        rw [← hmv, List.length_take, Nat.min_eq_left (by omega)] at hml
        obtain ⟨q, hq, hq64, hqv⟩ := or_step m x k hml (by omega)
        have hvs : val (bs.take (k + 1)) = m + 128 ^ k * (x % 128) := by
          rw [List.take_succ_eq_append_getElem hkl, val_append, ← hmv, List.length_take, Nat.min_eq_left (by omega)]
          have e : bs[k] = bs.getD k 0 := by simp [List.getElem?_eq_getElem hkl]
          rw [e]
          simp only [val]
          rw [← Hx.out]
          rfl
        have Hq := hide hq64
        have Hqv := hide (show k ≤ 8 ∨ x ≤ 1 → q = val (bs.take (k + 1)) from fun h => (hqv h).trans hvs.symm)
        have Hkl := hide hkl
        clear hq64 hqv hmv hkl hml hvs
        by_cases h128 : 128 ≤ x
        · go_wp2
          refine ⟨⟨k + 1, q, by omega, by go_num, rfl, fun j hj => ?_, fun h9 => Hqv.out (.inl (by omega)), Hq.out, trivial⟩, by simp [intOf]; omega⟩
          rcases Nat.lt_or_ge j k with hj' | hj'
          · exact Hall.out j hj'
          · obtain rfl : j = k := by omega
            rw [← Hx.out]; exact h128
        · have Hlead := hide (lead_of bs k Hkl.out Hall.out (by rw [← Hx.out]; omega))
          have Hxs := hide (show x = (bs.getD k 0).toNat from Hx.out)
          by_cases hk0 : k < 1
          · have Hr := hide (num_ok bs k Hlead.out (by omega) Hkl.out (by omega))
            rw [← Hqv.out (.inl (by omega))] at Hr
            go_wp2
            go_ret3
            exact ⟨by rw [Hr.out]; simp [numV], rfl⟩
          · by_cases hk9 : 8 < k
            · by_cases hx0 : x < 1
              · have Hr := hide (num_form bs k Hlead.out (by omega) Hkl.out (by rw [← Hxs.out]; omega))
                go_wp2
                go_ret3
                exact ⟨by rw [Hr.out]; simp [numV], rfl⟩
              · by_cases hx1 : x < 2
                · have Hr := hide (num_ok bs k Hlead.out (by omega) Hkl.out (by rw [← Hxs.out]; omega))
                  rw [← Hqv.out (.inr (by omega))] at Hr
                  have eb1 : ((x : Int) == 0) = false := beq_eq_false_iff_ne.2 (by omega)
                  have eb2 : decide (1 < (x : Int)) = false := decide_eq_false (by omega)
                  go_wp2
                  go_ret3
                  exact ⟨by rw [Hr.out]; simp [numV]; omega, rfl⟩
                · have Hr := hide (num_form bs k Hlead.out (by omega) Hkl.out (by rw [← Hxs.out]; omega))
                  go_wp2
                  go_ret3
                  exact ⟨by rw [Hr.out]; simp [numV], rfl⟩
            · by_cases hx0 : x < 1
              · have Hr := hide (num_form bs k Hlead.out (by omega) Hkl.out (by rw [← Hxs.out]; omega))
                go_wp2
                go_ret3
                exact ⟨by rw [Hr.out]; simp [numV], rfl⟩
              · have Hr := hide (num_ok bs k Hlead.out (by omega) Hkl.out (by rw [← Hxs.out]; omega))
                rw [← Hqv.out (.inl (by omega))] at Hr
                go_wp2
                go_ret3
                exact ⟨by rw [Hr.out]; simp [numV], rfl⟩
      · obtain rfl : k = M := by omega
        by_cases h10 : N < 10
        · have Hr := hide (num_short bs (fun j hj => Hall.out j (by have := HM.out; have := HN.out; omega)) (by have := HN.out; omega))
          go_wp2
          go_ret3
          exact ⟨by rw [Hr.out]; simp [numV], rfl⟩
        · have Hr := hide (num_long bs (fun j hj => Hall.out j (by have := HM.out; have := HN.out; omega)) (by have := HN.out; omega))
          go_wp2
          go_ret3
          exact ⟨by rw [Hr.out]; simp [numV], rfl⟩
end Go.Proofs.YtcmjdepjckhpdaaDoor.Wr

namespace Go.Proofs.YtcmjdepjckhpdaaDoor.Wr
open Go Go.RowKit Kt

theorem sl_take {w : World} {P : Nat → Prop} {A : Option Addr} {c k : Nat} {bs : List UInt8} (h : Sl w P A c bs) (hk : k ≤ bs.length) : Sl w P A c (bs.take k) := by
  have hl : (bs.take k).length = k := by rw [List.length_take]; omega
  refine ⟨by have := h.1; omega, fun hn => ?_⟩
  rw [hl] at hn
  obtain ⟨b, o, rfl, hp, hc⟩ := h.2 (by omega)
  refine ⟨b, o, rfl, hp, fun j hj => ?_⟩
  rw [hl] at hj
  rw [hc j (by omega), take_getD _ _ _ hj]

theorem text_bad (bs : List UInt8) (most : Int) (h : (numOf bs).2.2 ≠ 0) : textOf bs most = ([], 0, (numOf bs).2.2) := by unfold textOf; rw [if_pos h]
theorem text_over (bs : List UInt8) (most : Int) (n k : Nat) (h : numOf bs = (n, k, 0)) (h2 : (max most 0).toNat < n) : textOf bs most = ([], 0, 4) := by
  unfold textOf; rw [h, if_neg (by simp), if_pos h2]
theorem text_less (bs : List UInt8) (most : Int) (n k : Nat) (h : numOf bs = (n, k, 0)) (h2 : ¬ (max most 0).toNat < n) (h3 : bs.length - k < n) : textOf bs most = ([], 0, 2) := by
  unfold textOf; rw [h, if_neg (by simp), if_neg h2, if_pos h3]
theorem text_fine (bs : List UInt8) (most : Int) (n k : Nat) (h : numOf bs = (n, k, 0)) (h2 : ¬ (max most 0).toNat < n) (h3 : ¬ bs.length - k < n) : textOf bs most = ((bs.drop k).take n, k + n, 0) := by
  unfold textOf; rw [h, if_neg (by simp), if_neg h2, if_neg h3]

theorem clone_of (l : List UInt8) (n : Nat) (hn : l.length = n) (A : Option Addr) (c : Nat) (Pb : Nat → Prop) (w : World) (hs : Sl w Pb A c l) (hl : l.length ≤ 70368744177664) :
    Calls Tryd.prog 40 #[.slice A n c] w fun e w' => ∃ v, e = .returned v ∧ Own w' w.heap.size 5 v l ∧ Below w.heap.size w w' := by
  subst hn
  exact clone_any l A c Pb w hs hl

end Go.Proofs.YtcmjdepjckhpdaaDoor.Wr

namespace Go.Proofs.YtcmjdepjckhpdaaDoor.Wr
open Go Go.RowKit Kt

/-- nothing that was there has turned but the blocks of S -/
structure Only (S : Nat → Prop) (w w' : World) : Prop where
  os : w'.os = w.os
  tape : w'.tape = w.tape
  output : w'.output = w.output
  size : w.heap.size ≤ w'.heap.size
  block : ∀ k, k < w.heap.size → ¬ S k → w'.heap[k]? = w.heap[k]?
theorem Only.refl (S : Nat → Prop) (w : World) : Only S w w := ⟨rfl, rfl, rfl, Nat.le_refl _, fun _ _ _ => rfl⟩
theorem Only.trans {S : Nat → Prop} {a b c : World} (h : Only S a b) (k : Only S b c) : Only S a c :=
  ⟨k.os.trans h.os, k.tape.trans h.tape, k.output.trans h.output, Nat.le_trans h.size k.size, fun i hi hn => (k.block i (Nat.lt_of_lt_of_le hi h.size) hn).trans (h.block i hi hn)⟩
theorem Only.mono {S T : Nat → Prop} {a b : World} (h : Only S a b) (hi : ∀ k, k < a.heap.size → S k → T k) : Only T a b := ⟨h.os, h.tape, h.output, h.size, fun i hl hn => h.block i hl fun hs => hn (hi i hl hs)⟩
theorem Only.of_below {a b : World} (S : Nat → Prop) (h : Below a.heap.size a b) : Only S a b := ⟨h.os, h.tape, h.output, h.size, fun i hl _ => h.block i hl⟩
theorem Only.below {S : Nat → Prop} {B : Nat} {w0 a b : World} (h : Only S a b) (hb : Below B w0 a) (hB : B ≤ a.heap.size) (hS : ∀ k, k < B → ¬ S k) : Below B w0 b :=
  ⟨h.os.trans hb.os, h.tape.trans hb.tape, h.output.trans hb.output, Nat.le_trans hb.size h.size, fun k hk => (h.block k (by omega) (hS k hk)).trans (hb.block k hk)⟩
theorem Only.drew {S : Nat → Prop} {a b : World} (h : Only S a b) : Only S a b.drew := ⟨h.os, h.tape, h.output, h.size, h.block⟩
theorem Only.put {S : Nat → Prop} {a b : World} (h : Only S a b) {g i : Nat} (hg : S g) (u : Value) : Only S a (b.setCell ⟨g, i, none⟩ u) :=
  ⟨h.os, h.tape, h.output, by simpa [World.setCell] using h.size, fun k hk hn => (Below.heap_setCell b ⟨g, i, none⟩ u k (fun e => hn (by rw [e]; exact hg))).trans (h.block k hk hn)⟩
theorem _root_.Go.Proofs.YtcmjdepjckhpdaaDoor.Kt.Row.only {S : Nat → Prop} {w w' : World} {g : Nat} {t : TypeId} {cs : List Value} (h : Row w g t cs) (ho : Only S w w') (hg : ¬ S g) : Row w' g t cs := (ho.block g h.lt hg).trans h
theorem _root_.Go.Proofs.YtcmjdepjckhpdaaDoor.Kt.Sl.only {S P : Nat → Prop} {w w' : World} {A : Option Addr} {c : Nat} {bs : List UInt8} (h : Sl w P A c bs) (ho : Only S w w') (hp : ∀ b, P b → ¬ S b) : Sl w' P A c bs := h.move fun b hb hlt => ho.block b hlt (hp b hb)

/-- a slice's rest -/
def cutV (A : Option Addr) (n c k : Nat) : Value := .slice (if c = k then A else A.map (·.add k)) (n - k) (c - k)
theorem run_cut (w : World) (A : Option Addr) (n c k : Nat) (hk : k ≤ n) (_hn : n ≤ c) :
    (Instr.slice 38 (.slice A n c) (some (.int .i64 (k : Int))) none none).run Tryd.prog w = .ok (cutV A n c k) w := by
  have hu := run_underlying Tryd.underlying38
  unfold cutV
  cases A with
  | none =>
    go_simp
  | some ad =>
    go_simp

set_option maxHeartbeats 2000000 in
set_option maxRecDepth 100000 in
theorem num_clo (bs : List UInt8) (A : Option Addr) (c g br bn x n k e : Nat) (Pb : Nat → Prop) (w : World) (hr : Row w br 116 [.pointer (some ⟨g, 0, none⟩)]) (hn : Row w bn 75 [.int .u64 (x : Int)])
    (hg : Row w g 122 [.slice A bs.length c, .int .i64 0]) (hs : Sl w Pb A c bs) (_hP : ∀ b, Pb b → b ≠ bn) (hnr : bn ≠ br) (hgr : g ≠ br) (hgn : g ≠ bn)
    (hl : bs.length ≤ 70368744177664) (hnum : numOf bs = (n, k, e)) :
    Calls Tryd.prog 71 #[.pointer (some ⟨br, 0, none⟩), .pointer (some ⟨bn, 0, none⟩)] w fun y w' => y = .returned (.int .i64 (e : Int)) ∧
      Row w' bn 75 [.int .u64 (n : Int)] ∧ Row w' g 122 [cutV A bs.length c k, .int .i64 (e : Int)] ∧ Only (fun b => b = g ∨ b = bn) w w' := by
  have hkl : k ≤ bs.length := by
    by_cases he : e = 0
    · subst he; exact (numOf_ok bs n k hnum).2.2.2.1
    · have := numOf_fail bs n k e hnum he; omega
  have hcut := fun w => run_cut w A bs.length c k hkl hs.1
  obtain ⟨A2, hA2⟩ : ∃ A2, (if c = k then A else A.map (·.add k)) = A2 := ⟨_, rfl⟩
  have hV : cutV A bs.length c k = .slice A2 (bs.length - k) (c - k) := by unfold cutV; rw [hA2]
  rw [hV] at hcut ⊢
  clear hV hA2
  have Hcut := hide hcut
  have Hs := hide hs
  have Hr := hide hr
  have Hn := hide hn
  have Hg := hide hg
  have c1 : w.cell? ⟨br, 0, none⟩ = some (.pointer (some ⟨g, 0, none⟩)) := hr.cell 0
  have c2 : w.cell? ⟨g, 0, none⟩ = some (.slice A bs.length c) := hg.cell 0
  have c3 : w.cell? ⟨g, 1, none⟩ = some (.int .i64 0) := hg.cell 1
  have c4 : w.cell? ⟨bn, 0, none⟩ = some (.int .u64 (x : Int)) := hn.cell 0
  have f1 := hg.free 0
  have f2 := hg.free 1
  have f3 := hn.free 0
  clear hr hn hg hs hcut
  go_enter Tryd.func71, Tryd.ntmps71
  go_wp2
  refine Rg.wp_region_ord (fun w' => w'.cell? ⟨br, 0, none⟩ = some (.pointer (some ⟨g, 0, none⟩)) ∧ w'.cell? ⟨g, 0, none⟩ = some (.slice A bs.length c)) [(0, true), (1, true), (2, true), (3, true), (4, true), (5, false), (6, true), (7, true), (8, true), (9, true), (10, false), (11, true), (12, true), (13, true), (14, false)] (by kernel_rfl) (by kernel_rfl) ?_
  simp only [Rg.pick, List.map_cons, List.map_nil, List.getD_cons_zero, List.getD_cons_succ]
  iterate 5 (refine Rg.ord_quiet (v := ?_) rfl (fun w' hS => ?_) ⟨c1, c2⟩ ?_; rotate_left; (obtain ⟨s1, s2⟩ := hS; go_simp; with_reducible rfl); simp only [Act.put, List.setIfInBounds_toArray, List.set_cons_succ, List.set_cons_zero])
  refine Rg.ord_loud rfl (fun K hK => ?_)
  go_simp
  refine (number_any bs A c Pb w.drew Hs.out hl).mono ?_
  rintro y w1 ⟨rfl, rfl⟩
  refine hK _ _ (fun _ => ⟨c1, c2⟩) ?_
  clear hK K
  rw [hnum]
  simp only [numV]
  iterate 4 (refine Rg.ord_quiet (v := ?_) rfl (fun w' hS => ?_) ⟨c1, c2⟩ ?_; rotate_left; (obtain ⟨s1, s2⟩ := hS; go_simp; with_reducible rfl); simp only [Act.put, List.setIfInBounds_toArray, List.set_cons_succ, List.set_cons_zero])
  refine Rg.ord_loud rfl (fun K hK => ?_)
  go_simp
  have hn2 := Hn.out.put 0 (.int .u64 (n : Int))
  have hg2 := Hg.out.off hgn (i := 0) (.int .u64 (n : Int))
  have hr2 := Hr.out.off (Ne.symm hnr) (i := 0) (.int .u64 (n : Int))
  have ho2 := (Only.refl (fun b => b = g ∨ b = bn) w).put (g := bn) (i := 0) (.inr rfl) (.int .u64 (n : Int))
  obtain ⟨w2, hw2⟩ : ∃ w2, w2 = w.setCell ⟨bn, 0, none⟩ (.int .u64 (n : Int)) := ⟨_, rfl⟩
  rw [← hw2] at hn2 hg2 hr2 ho2 ⊢
  have Hn2 := hide hn2
  have Hg2 := hide hg2
  have Hr2 := hide hr2
  have Ho2 := hide ho2
  clear hw2 c1 c2 c3 c4 f1 f2 f3
  have c1 : w2.cell? ⟨br, 0, none⟩ = some (.pointer (some ⟨g, 0, none⟩)) := hr2.cell 0
  have c2 : w2.cell? ⟨g, 0, none⟩ = some (.slice A bs.length c) := hg2.cell 0
  have c3 : w2.cell? ⟨g, 1, none⟩ = some (.int .i64 0) := hg2.cell 1
  have f2 := hg2.free 1
  clear hn2 hg2 hr2 ho2
  refine hK _ _ (fun _ => ⟨c1, c2⟩) ?_
  clear hK K
  iterate 3 (refine Rg.ord_quiet (v := ?_) rfl (fun w' hS => ?_) ⟨c1, c2⟩ ?_; rotate_left; (obtain ⟨s1, s2⟩ := hS; go_simp; with_reducible rfl); simp only [Act.put, List.setIfInBounds_toArray, List.set_cons_succ, List.set_cons_zero])
  refine Rg.ord_loud rfl (fun K hK => ?_)
  go_simp
  have hn3 := Hn2.out.off (Ne.symm hgn) (i := 1) (.int .i64 (e : Int))
  have hg3 := Hg2.out.put 1 (.int .i64 (e : Int))
  have hr3 := Hr2.out.off (Ne.symm hgr) (i := 1) (.int .i64 (e : Int))
  have ho3 := Ho2.out.put (g := g) (i := 1) (.inl rfl) (.int .i64 (e : Int))
  obtain ⟨w3, hw3⟩ : ∃ w3, w3 = w2.setCell ⟨g, 1, none⟩ (.int .i64 (e : Int)) := ⟨_, rfl⟩
  rw [← hw3] at hn3 hg3 hr3 ho3 ⊢
  have Hn3 := hide hn3
  have Hg3 := hide hg3
  have Ho3 := hide ho3
  have Hr3 := hide hr3
  clear hw3 c1 c2 c3 f2
  have c1 : w3.cell? ⟨br, 0, none⟩ = some (.pointer (some ⟨g, 0, none⟩)) := hr3.cell 0
  have c2 : w3.cell? ⟨g, 0, none⟩ = some (.slice A bs.length c) := hg3.cell 0
  have c3 : w3.cell? ⟨g, 1, none⟩ = some (.int .i64 (e : Int)) := hg3.cell 1
  have f1 := hg3.free 0
  clear hn3 hg3 hr3 ho3
  refine hK _ _ (fun _ => ⟨c1, c2⟩) ?_
  clear hK K
  refine Rg.ord_nil ?_
  go_wp2
  refine Rg.wp_region_ord (fun w' => w'.cell? ⟨br, 0, none⟩ = some (.pointer (some ⟨g, 0, none⟩)) ∧ w'.cell? ⟨g, 0, none⟩ = some (.slice A bs.length c)) [(0, true), (1, true), (2, true), (3, true), (4, true), (5, true), (6, true), (7, true), (8, true), (9, false)] (by kernel_rfl) (by kernel_rfl) ?_
  simp only [Rg.pick, List.map_cons, List.map_nil, List.getD_cons_zero, List.getD_cons_succ]
  iterate 6 (refine Rg.ord_quiet (v := ?_) rfl (fun w' hS => ?_) ⟨c1, c2⟩ ?_; rotate_left; (obtain ⟨s1, s2⟩ := hS; go_simp; with_reducible rfl); simp only [Act.put, List.setIfInBounds_toArray, List.set_cons_succ, List.set_cons_zero])
  refine Rg.ord_quiet (v := .slice A2 (bs.length - k) (c - k)) rfl (fun w' hS => ?_) ⟨c1, c2⟩ ?_
  · have hq := Hcut.out w'
    clear hS
    go_simp
  simp only [Act.put, List.setIfInBounds_toArray, List.set_cons_succ, List.set_cons_zero]
  iterate 2 (refine Rg.ord_quiet (v := ?_) rfl (fun w' hS => ?_) ⟨c1, c2⟩ ?_; rotate_left; (obtain ⟨s1, s2⟩ := hS; go_simp; with_reducible rfl); simp only [Act.put, List.setIfInBounds_toArray, List.set_cons_succ, List.set_cons_zero])
  refine Rg.ord_loud rfl (fun K hK => ?_)
  go_simp
  have hr4 := Hr3.out.off (Ne.symm hgr) (i := 0) (.slice A2 (bs.length - k) (c - k))
  have hn4 := Hn3.out.off (Ne.symm hgn) (i := 0) (.slice A2 (bs.length - k) (c - k))
  have hg4 := Hg3.out.put 0 (.slice A2 (bs.length - k) (c - k))
  have ho4 := Ho3.out.put (g := g) (i := 0) (.inl rfl) (.slice A2 (bs.length - k) (c - k))
  obtain ⟨w4, hw4⟩ : ∃ w4, w4 = w3.setCell ⟨g, 0, none⟩ (.slice A2 (bs.length - k) (c - k)) := ⟨_, rfl⟩
  rw [← hw4] at hr4 hn4 hg4 ho4 ⊢
  have Hn4 := hide hn4
  have Hg4 := hide hg4
  have Ho4 := hide ho4
  clear hw4 c2 c3 f1
  have c1 : w4.cell? ⟨br, 0, none⟩ = some (.pointer (some ⟨g, 0, none⟩)) := hr4.cell 0
  have c3 : w4.cell? ⟨g, 1, none⟩ = some (.int .i64 (e : Int)) := hg4.cell 1
  clear hr4 hn4 hg4 ho4
  refine hK _ _ (fun hf => absurd (show Rg.sink _ 9 = true from by kernel_rfl) (by rw [hf]; decide)) ?_
  clear hK K
  refine Rg.ord_nil ?_
  go_wp2
  go_ret
  exact ⟨rfl, Hn4.out, Hg4.out, Ho4.out.drew.drew⟩
end Go.Proofs.YtcmjdepjckhpdaaDoor.Wr

namespace Go.Proofs.YtcmjdepjckhpdaaDoor.Wr
open Go Go.RowKit Kt

theorem text_le (bs : List UInt8) (most : Int) : (textOf bs most).2.1 ≤ bs.length := by
  unfold textOf
  split
  · simp
  · split
    · simp
    · split
      · simp
      · rename_i h1 _ h3
        have he : (numOf bs).2.2 = 0 := by omega
        have := numOf_ok bs (numOf bs).1 (numOf bs).2.1 (by rw [← he])
        simp only
        omega
theorem own_put {w : World} {B g i : Nat} {E : TypeId} {v : Value} {l : List UInt8} (h : Own w B E v l) (hg : g < B) (u : Value) : Own (w.setCell ⟨g, i, none⟩ u) B E v l := by
  refine ⟨h.1, ?_⟩
  rcases h.2 with ⟨h1, h2⟩ | ⟨b, cap, cur, hv', h1, h2, h3⟩
  · exact .inl ⟨h1, h2⟩
  · exact .inr ⟨b, cap, cur, hv', h1, (Below.heap_setCell w ⟨g, i, none⟩ u b (by simp only; omega)).trans h2, h3⟩

end Go.Proofs.YtcmjdepjckhpdaaDoor.Wr
