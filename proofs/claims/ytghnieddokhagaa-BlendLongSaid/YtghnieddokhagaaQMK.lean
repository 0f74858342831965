/-
  The statements' own example (awake) of the merging layer comes out true.
-/
import Derived.BigQuiet
import Derived.Test.YtghnieddokhagaaMI
import Derived.Test.YtghnieddokhagaaQReg
namespace Go.Proofs.Ytghnieddokhagaa.Al
open Go Go.RowKit Kt Kg Lw Li Df

abbrev yO : Ls := [[49]]
abbrev yA : Ls := [[50]]
abbrev yB : Ls := [[51]]
theorem D_yA : D yO yA = [⟨0, 1, [[50]]⟩] := by
  have h1 : fr yO yA = 0 := by decide
  have h2 : bk yO yA = 0 := by decide
  have h3 : mid yO 0 0 = [[49]] := by decide
  have h4 : mid yA 0 0 = [[50]] := by decide
  unfold D
  rw [h1, h2, h3, h4, if_pos (by decide), go_both, if_neg (by decide), if_pos (by rw [lcs_nil_right]; exact Nat.zero_le _), go_come, go_nil]
  rfl
theorem D_yB : D yO yB = [⟨0, 1, [[51]]⟩] := by
  have h1 : fr yO yB = 0 := by decide
  have h2 : bk yO yB = 0 := by decide
  have h3 : mid yO 0 0 = [[49]] := by decide
  have h4 : mid yB 0 0 = [[51]] := by decide
  unfold D
  rw [h1, h2, h3, h4, if_pos (by decide), go_both, if_neg (by decide), if_pos (by rw [lcs_nil_right]; exact Nat.zero_le _), go_come, go_nil]
  rfl
abbrev zO : Ls := [[49, 10], [50, 10], [51, 10]]
abbrev zA : Ls := [[120, 10], [50, 10], [51, 10]]
abbrev zB : Ls := [[49, 10], [50, 10], [121, 10]]
theorem D_zA : D zO zA = [⟨0, 1, [[120, 10]]⟩] := by
  have h1 : fr zO zA = 0 := by decide
  have h2 : bk zO zA = 2 := by decide
  have h3 : mid zO 0 2 = [[49, 10]] := by decide
  have h4 : mid zA 0 2 = [[120, 10]] := by decide
  unfold D
  rw [h1, h2, h3, h4, if_pos (by decide), go_both, if_neg (by decide), if_pos (by rw [lcs_nil_right]; exact Nat.zero_le _), go_come, go_nil]
  rfl
theorem D_zB : D zO zB = [⟨2, 1, [[121, 10]]⟩] := by
  have h1 : fr zO zB = 2 := by decide
  have h2 : bk zO zB = 0 := by decide
  have h3 : mid zO 2 0 = [[51, 10]] := by decide
  have h4 : mid zB 2 0 = [[121, 10]] := by decide
  unfold D
  rw [h1, h2, h3, h4, if_pos (by decide), go_both, if_neg (by decide), if_pos (by rw [lcs_nil_right]; exact Nat.zero_le _), go_come, go_nil]
  rfl
theorem regs_y : regs yO yA yB = [⟨4, 0, 1, 0, 1, 0, 1⟩] := by
  unfold regs
  rw [D_yA, D_yB, mrg, if_pos (by decide), mrg, List.map_cons, List.map_nil, loop_cons]
  have g1 : grow ((Cl.zero 0).take false ⟨0, 1, [[50]]⟩) [(true, ⟨0, 1, [[51]]⟩)] = (⟨0, 1, 1, 0, 1, 0⟩, []) := by rfl
  simp only [g1]
  rw [loop_nil]
  decide
theorem regs_z : regs zO zA zB = [⟨1, 0, 1, 0, 1, 0, 1⟩, ⟨0, 1, 1, 1, 1, 1, 1⟩, ⟨2, 2, 1, 2, 1, 2, 1⟩] := by
  unfold regs
  rw [D_zA, D_zB, mrg, if_pos (by decide), mrg, List.map_cons, List.map_nil, loop_cons]
  have g1 : grow ((Cl.zero 0).take false ⟨0, 1, [[120, 10]]⟩) [(true, ⟨2, 1, [[121, 10]]⟩)] = (⟨0, 1, 1, 0, 0, 0⟩, [(true, ⟨2, 1, [[121, 10]]⟩)]) := by rfl
  simp only [g1]
  rw [loop_cons]
  have g2 : grow ((Cl.zero 2).take true ⟨2, 1, [[121, 10]]⟩) [] = (⟨2, 3, 0, 0, 1, 0⟩, []) := by rfl
  simp only [g2]
  rw [loop_nil]
  decide
theorem mgT_y : mgT [49] [50] [51] = ([60, 60, 60, 60, 60, 60, 60, 10, 50, 10, 124, 124, 124, 124, 124, 124, 124, 10, 49, 10, 61, 61, 61, 61, 61, 61, 61, 10, 51, 10, 62, 62, 62, 62, 62, 62, 62, 10], 1) := by
  rw [mgT_lines (by decide) (by decide) (by decide), show lns [49] = yO from by decide, show lns [50] = yA from by decide, show lns [51] = yB from by decide]
  unfold mgL mgN
  rw [regs_y]
  decide
theorem mgT_z : mgT [49, 10, 50, 10, 51, 10] [120, 10, 50, 10, 51, 10] [49, 10, 50, 10, 121, 10] = ([120, 10, 50, 10, 121, 10], 0) := by
  rw [mgT_lines (by decide) (by decide) (by decide), show lns [49, 10, 50, 10, 51, 10] = zO from by decide, show lns [120, 10, 50, 10, 51, 10] = zA from by decide, show lns [49, 10, 50, 10, 121, 10] = zB from by decide]
  unfold mgL mgN
  rw [regs_z]
  decide
end Go.Proofs.Ytghnieddokhagaa.Al
namespace Go.Proofs.Ytghnieddokhagaa.Al
open Go Go.RowKit Kt Kg Lw Li Df

set_option maxRecDepth 100000 in
set_option maxHeartbeats 1000000 in
theorem rclosed_any (s : List UInt8) (w : World) (hl : s.length ≤ 281474976710656) :
    Calls Try.prog 48 #[.string ⟨s.toArray⟩] w fun e w' => e = .returned (.string ⟨(shut s).toArray⟩) ∧ Below w.heap.size w w' := by
  rcases List.eq_nil_or_concat s with rfl | ⟨p, b, rfl⟩
  · go_enter Try.func48, Try.ntmps48
    go_wp2
    go_ret
    exact ⟨rfl, Below.refl _ _⟩
  · rw [List.concat_eq_append] at hl ⊢
    have hie : ((p.length : Int) + 1 == 0) = false := by rw [beq_eq_false_iff_ne]; omega
    have hp : p.length + 1 ≤ 281474976710656 := by simpa using hl
    have eg := get_last p b (by simp [size_of])
    by_cases hb : b = 10
    · have hs : shut (p ++ [b]) = p ++ [b] := shut_yes (by rw [hb]; simp)
      have Hs := hide hs
      have hq : ((b.toNat : Int) != 10) = false := by rw [hb]; rfl
      clear hl hs hb
      go_enter Try.func48, Try.ntmps48
      go_wp2
      go_ret
      exact ⟨by rw [Hs.out]; rfl, Below.refl _ _⟩
    · have hs : shut (p ++ [b]) = p ++ [b] ++ [10] := shut_no (by simpa using hb)
      have Hs := hide hs
      have hq : ((b.toNat : Int) != 10) = true := by
        have h := ten_of b
        rw [show (b == 10) = false by simpa using hb] at h
        unfold bne
        rw [h]; rfl
      have ea : ByteArray.mk (p ++ [b]).toArray ++ ByteArray.mk #[10] = ⟨(p ++ [b] ++ [10]).toArray⟩ := app_txt (p ++ [b]) [10]
      have hx : ¬ 9223372036854775807 < (p ++ [b]).length + 1 := by omega
      have hx2 : ¬ 9223372036854775807 < p.length + 1 + 1 := by omega
      clear hl hs hb
      go_enter Try.func48, Try.ntmps48
      go_wp2
      go_ret
      exact ⟨by rw [Hs.out, List.append_assoc]; rfl, Below.refl _ _⟩
theorem shut_seven (c : UInt8) (h : c ≠ 10) : shut (List.replicate 7 c) = mk7 c := by
  rw [shut_no (by simpa using h)]
  rfl
set_option maxRecDepth 100000 in
set_option maxHeartbeats 1000000 in
theorem mark_any (c : UInt8) (w : World) (hc : c ≠ 10) :
    Calls Try.prog 47 #[.string ⟨#[c]⟩] w fun e w' => e = .returned (.string ⟨(mk7 c).toArray⟩) ∧ Below w.heap.size w w' := by
  have HC := hide (fun w => rclosed_any (List.replicate 7 c) w (by simp))
  rw [shut_seven c hc] at HC
  clear hc
  obtain ⟨M, hM⟩ : ∃ M, M = mk7 c := ⟨_, rfl⟩
  rw [← hM] at HC ⊢
  clear hM
  go_enter Try.func47, Try.ntmps47
  go_wp2
  go_loopw [3, 4] (fun s i wr => ∃ (k : Nat) (l : List UInt8), k ≤ 7 ∧ i = .int .i64 k ∧ s = .string ⟨l.toArray⟩ ∧ Hid (l = List.replicate k c) ∧ w = wr) (fun _ i _ => 7 - (intOf i).toNat)
  case atStart => exact ⟨0, [], by omega, rfl, rfl, by show Hid _; exact hide rfl, rfl⟩
  case round =>
    obtain ⟨k, l, hk, rfl, rfl, HL, rfl⟩ := hrel
    by_cases hlt : k < 7
    · have hlen : l.length ≤ 7 := by rw [HL.out, List.length_replicate]; omega
      have ea : ByteArray.mk l.toArray ++ ByteArray.mk #[c] = ⟨(l ++ [c]).toArray⟩ := app_txt l [c]
      have hx : ¬ 9223372036854775807 < l.length + 1 := by omega
      have HL2 := hide (show l ++ [c] = List.replicate (k + 1) c by rw [HL.out, List.replicate_succ'])
      clear HL
      go_wp2
      exact ⟨⟨k + 1, l ++ [c], by omega, by go_num, rfl, HL2, trivial⟩, by simp [intOf]; omega⟩
    · obtain rfl : k = 7 := by omega
      have HC2 := hide (fun w => (by have h := HC.out w; rw [← HL.out] at h; exact h : Calls Try.prog 48 #[.string ⟨l.toArray⟩] w fun e w' => e = .returned (.string ⟨M.toArray⟩) ∧ Below w.heap.size w w'))
      clear HL HC
      go_wp2_with fail
      refine (HC2.out w).mono ?_
      rintro y w1 ⟨rfl, hb⟩
      go_wp2
      go_ret
      exact ⟨rfl, hb⟩
theorem less_cons (x y : UInt8) (p q : List UInt8) : Op.bytesLess (x :: p) (y :: q) = (decide (x < y) || (x == y && Op.bytesLess p q)) := rfl
theorem less_end {p q : List UInt8} (h : p = [] ∨ q = []) : Op.bytesLess p q = decide (p.length < q.length) := by
  cases p with
  | nil => cases q <;> simp [Op.bytesLess]
  | cons x p =>
    have hq : q = [] := by simpa using h
    subst hq
    simp [Op.bytesLess]
theorem drop_getD (a : List UInt8) (k : Nat) (h : k < a.length) : a.drop k = a.getD k 0 :: a.drop (k + 1) := by
  rw [List.drop_eq_getElem_cons h]; simp [List.getElem?_eq_getElem h]
set_option maxRecDepth 100000 in
set_option maxHeartbeats 2000000 in
theorem less_any (a b : List UInt8) (w : World) (ha : a.length ≤ 100000) (_hb : b.length ≤ 100000) :
    Calls Try.prog 21 #[.string ⟨a.toArray⟩, .string ⟨b.toArray⟩] w fun e w' => e = .returned (.bool (Op.bytesLess a b)) ∧ Below w.heap.size w w' := by
  go_enter Try.func21, Try.ntmps21
  go_wp2
  go_loopw [5] (fun i wr => ∃ k : Nat, k ≤ a.length ∧ k ≤ b.length ∧ i = .int .i64 k ∧ Hid (Op.bytesLess a b = Op.bytesLess (a.drop k) (b.drop k)) ∧ Below w.heap.size w wr) (fun i _ => a.length - (intOf i).toNat)
  case atStart => exact ⟨0, Nat.zero_le _, Nat.zero_le _, rfl, by show Hid _; exact hide rfl, Below.refl _ _⟩
  case round =>
    obtain ⟨k, hka, hkb, rfl, HL, hbw⟩ := hrel
    have Hb := hide hbw
    clear hbw
    by_cases hlt : k < a.length ∧ k < b.length
    · obtain ⟨h1, h2⟩ := hlt
      have e1 := Li.get_at a k (by rw [size_of]; exact h1)
      have e2 := Li.get_at b k (by rw [size_of]; exact h2)
      have hL := HL.out
      rw [drop_getD a k h1, drop_getD b k h2, less_cons] at hL
      generalize a.getD k 0 = x at *
      generalize b.getD k 0 = y at *
      clear HL
      by_cases hxy : x = y
      · subst hxy
        have HL2 := hide (show Op.bytesLess a b = Op.bytesLess (a.drop (k + 1)) (b.drop (k + 1)) by rw [hL]; simp)
        clear hL
        go_wp2
        go_quiet (fail)
        go_wp2
        exact ⟨⟨k + 1, by omega, by omega, by go_num, HL2, below_drewN Hb.out _⟩, by simp [intOf]; omega⟩
      · have hne : ((x.toNat : Int) != (y.toNat : Int)) = true := by
          rw [bne_iff_ne]
          intro h
          exact hxy (UInt8.toNat_inj.1 (by omega))
        have HL2 := hide (show Op.bytesLess a b = decide (x.toNat < y.toNat) by
          rw [hL, show (x == y) = false by simpa using hxy]
          simp only [Bool.false_and, Bool.or_false]
          rw [decide_eq_decide, UInt8.lt_iff_toNat_lt])
        clear hL hxy
        go_wp2
        go_quiet (fail)
        go_wp2
        go_quiet (fail)
        go_wp2
        go_ret
        exact ⟨by rw [HL2.out]; rfl, below_drewN (below_drewN Hb.out _) _⟩
    · have hor : a.drop k = [] ∨ b.drop k = [] := by
        rw [List.drop_eq_nil_iff, List.drop_eq_nil_iff]; omega
      have HL2 := hide (show Op.bytesLess a b = decide (a.length < b.length) by
        rw [HL.out, less_end hor, decide_eq_decide, List.length_drop, List.length_drop]
        omega)
      clear HL hor
      by_cases h1 : k < a.length
      · have h2 : ¬ k < b.length := fun h => hlt ⟨h1, h⟩
        have d1 : decide ((k : Int) < (a.length : Int)) = true := decide_eq_true (by omega)
        have d2 : decide ((k : Int) < (b.length : Int)) = false := decide_eq_false (by omega)
        clear hlt
        go_wp2
        go_ret
        exact ⟨by rw [HL2.out]; rfl, Hb.out⟩
      · have d1 : decide ((k : Int) < (a.length : Int)) = false := decide_eq_false (by omega)
        clear hlt
        go_wp2
        go_ret
        exact ⟨by rw [HL2.out]; rfl, Hb.out⟩
end Go.Proofs.Ytghnieddokhagaa.Al
namespace Go.Proofs.Ytghnieddokhagaa.Al
open Go Go.RowKit Kt Kg Lw Li Df Kf

/-- what is told so far lies in a row of the call's own, beside a region's box -/
structure RL (w0 : World) (B0 q : Nat) (cs : List Value) (v : Value) (F : Ls) (w : World) : Prop where
  own : OwT w B0 tS v F
  low : Below B0 w0 w
  row : Row w q tR cs
theorem RL.below {w0 w w' : World} {B0 q : Nat} {cs : List Value} {v : Value} {F : Ls} (h : RL w0 B0 q cs v F w) (hb : Below w.heap.size w w') (hB : B0 ≤ w.heap.size) : RL w0 B0 q cs v F w' :=
  ⟨h.own.kept hb, h.low.trans (hb.mono hB), h.row.below hb h.row.lt⟩
theorem row_ne {w : World} {B g : Nat} {v : Value} {l : Ls} {cs : List Value} (hrow : Row w g tR cs) (hown : OwT w B tS v l) : some g ≠ v.ownBlock := by
  intro h
  rcases hown.2 with ⟨rfl, _⟩ | ⟨g', cap', cur', rfl, _, hgg', _⟩
  · cases h
  · simp only [Value.ownBlock, Option.some.injEq] at h
    subst h
    unfold Row at hrow
    rw [hgg'] at hrow
    simp only [Option.some.injEq, Obj.cells.injEq] at hrow
    exact absurd hrow.2.1 (by decide)
theorem RL.pushed {w0 w w' : World} {B0 q : Nat} {cs : List Value} {v v' : Value} {F F' : Ls} (h : RL w0 B0 q cs v F w) (ho : OwT w' B0 tS v' F') (hl : Below B0 w0 w') (hg : w.grownBy w' v.ownBlock) : RL w0 B0 q cs v' F' w' :=
  ⟨ho, hl, (hg.block q h.row.lt (row_ne h.row h.own)).trans h.row⟩
theorem RL.base {w0 w : World} {B0 q : Nat} {cs : List Value} {v : Value} {F : Ls} (h : RL w0 B0 q cs v F w) (hB : B0 ≤ w0.heap.size) : B0 ≤ w.heap.size := Nat.le_trans hB h.low.size
theorem cut_take (l : Ls) (x m k : Nat) (hx : x + m ≤ l.length) (hk : k < m) : (cut l x m).take (k + 1) = (cut l x m).take k ++ [l.getD (x + k) []] := by
  have hl := cut_len (l := l) (x := x) (n := m) rfl rfl hx
  rw [List.take_succ_eq_append_getElem (by omega)]
  congr 1
  unfold cut
  simp [List.getElem?_eq_getElem (show x + k < l.length by omega)]
set_option maxRecDepth 100000 in
set_option maxHeartbeats 2000000 in
theorem rl_mark10 {B : Code} {K : Act → World → Prop} {Q' : Exit → Act → World → Prop} {w0 w : World} {B0 q : Nat} {cs : List Value} {v : Value} {F : Ls} (x0 x1 x2 x3 x4 x5 x6 x7 x9 x10 x11 x12 x13 x14 x15 x16 x17 x18 x19 x20 x21 x22 x23 x24 x25 x26 x27 x28 x29 x30 x31 x32 x33 x34 x35 x36 x37 x38 x39 x40 x41 x42 x43 x44 x45 x46 x47 x48 x49 x50 x51 x52 x53 x54 x55 x56 x57 x58 x59 x60 x61 x62 x63 x64 x65 x66 x67 x68 x69 x70 x71 x72 x73 x74 x75 x76 x77 x78 x79 x80 x81 x82 x83 x84 x85 x86 x87 x88 x89 x90 x91 x92 x93 x94 x95 x96 x97 x98 x99 x100 x101 x102 x103 x104 x105 x106 x107 x108 x109 x110 x111 x112 x113 x114 x115 x116 x117 x118 x119 x120 x121 x122 x123 x124 x125 x126 x127 x128 x129 x130 x131 x132 x133 x134 x135 x136 x137 x138 x139 x140 : Value)
    (hB : B = (findR 10 (Try.f35.body.getD .skip)).getD .skip) (h : RL w0 B0 q cs v F w) (hb0 : B0 ≤ w0.heap.size) (hF : F.length ≤ 100000000)
    (hK : ∀ (v' u35 u36 u37 u38 : Value) (wx : World), RL w0 B0 q cs v' (F ++ [mk7 60]) wx → K { tmps := List.toArray (x0 :: x1 :: x2 :: x3 :: x4 :: x5 :: x6 :: x7 :: v' :: x9 :: x10 :: x11 :: x12 :: x13 :: x14 :: x15 :: x16 :: x17 :: x18 :: x19 :: x20 :: x21 :: x22 :: x23 :: x24 :: x25 :: x26 :: x27 :: x28 :: x29 :: x30 :: x31 :: x32 :: x33 :: x34 :: u35 :: u36 :: u37 :: u38 :: x39 :: x40 :: x41 :: x42 :: x43 :: x44 :: x45 :: x46 :: x47 :: x48 :: x49 :: x50 :: x51 :: x52 :: x53 :: x54 :: x55 :: x56 :: x57 :: x58 :: x59 :: x60 :: x61 :: x62 :: x63 :: x64 :: x65 :: x66 :: x67 :: x68 :: x69 :: x70 :: x71 :: x72 :: x73 :: x74 :: x75 :: x76 :: x77 :: x78 :: x79 :: x80 :: x81 :: x82 :: x83 :: x84 :: x85 :: x86 :: x87 :: x88 :: x89 :: x90 :: x91 :: x92 :: x93 :: x94 :: x95 :: x96 :: x97 :: x98 :: x99 :: x100 :: x101 :: x102 :: x103 :: x104 :: x105 :: x106 :: x107 :: x108 :: x109 :: x110 :: x111 :: x112 :: x113 :: x114 :: x115 :: x116 :: x117 :: x118 :: x119 :: x120 :: x121 :: x122 :: x123 :: x124 :: x125 :: x126 :: x127 :: x128 :: x129 :: x130 :: x131 :: x132 :: x133 :: x134 :: x135 :: x136 :: x137 :: x138 :: x139 :: x140 :: []), defers := [] } wx) :
    Code.wp Try.prog B (Exit.then K Q') { tmps := List.toArray (x0 :: x1 :: x2 :: x3 :: x4 :: x5 :: x6 :: x7 :: v :: x9 :: x10 :: x11 :: x12 :: x13 :: x14 :: x15 :: x16 :: x17 :: x18 :: x19 :: x20 :: x21 :: x22 :: x23 :: x24 :: x25 :: x26 :: x27 :: x28 :: x29 :: x30 :: x31 :: x32 :: x33 :: x34 :: x35 :: x36 :: x37 :: x38 :: x39 :: x40 :: x41 :: x42 :: x43 :: x44 :: x45 :: x46 :: x47 :: x48 :: x49 :: x50 :: x51 :: x52 :: x53 :: x54 :: x55 :: x56 :: x57 :: x58 :: x59 :: x60 :: x61 :: x62 :: x63 :: x64 :: x65 :: x66 :: x67 :: x68 :: x69 :: x70 :: x71 :: x72 :: x73 :: x74 :: x75 :: x76 :: x77 :: x78 :: x79 :: x80 :: x81 :: x82 :: x83 :: x84 :: x85 :: x86 :: x87 :: x88 :: x89 :: x90 :: x91 :: x92 :: x93 :: x94 :: x95 :: x96 :: x97 :: x98 :: x99 :: x100 :: x101 :: x102 :: x103 :: x104 :: x105 :: x106 :: x107 :: x108 :: x109 :: x110 :: x111 :: x112 :: x113 :: x114 :: x115 :: x116 :: x117 :: x118 :: x119 :: x120 :: x121 :: x122 :: x123 :: x124 :: x125 :: x126 :: x127 :: x128 :: x129 :: x130 :: x131 :: x132 :: x133 :: x134 :: x135 :: x136 :: x137 :: x138 :: x139 :: x140 :: []), defers := [] } w := by
  have HF := hide hK
  clear hK
  subst hB
  conv => arg 2; whnf
  have H := hide h
  have HM := hide (mark_any 60 w (by decide))
  obtain ⟨M, hM⟩ : ∃ M, M = mk7 60 := ⟨_, rfl⟩
  rw [← hM] at HF HM
  clear h hM
  go_wp2_with fail
  refine HM.out.mono ?_
  rintro y w1 ⟨rfl, hb⟩
  have H1 := hide (H.out.below hb (H.out.base hb0))
  have Hbs := hide (H1.out.base hb0)
  clear hb HM
  rename_i KK hKK
  refine hKK _ _ ?_
  clear hKK KK
  go_wp2_with (at_builtin; go_loud (refine wpList_pushT rfl (.tmp 35) (.tmp 37) rfl B0 w0 v F M _ rfl rfl rfl H1.out.own (by omega) H1.out.low Hbs.out ?_; intro v1 w2 hown hb2 hg _))
  exact HF.out _ _ _ _ _ _ (H1.out.pushed hown hb2 hg)
set_option maxRecDepth 100000 in
set_option maxHeartbeats 2000000 in
theorem rl_mark15 {B : Code} {K : Act → World → Prop} {Q' : Exit → Act → World → Prop} {w0 w : World} {B0 q : Nat} {cs : List Value} {v : Value} {F : Ls} (x0 x1 x2 x3 x4 x5 x6 x7 x9 x10 x11 x12 x13 x14 x15 x16 x17 x18 x19 x20 x21 x22 x23 x24 x25 x26 x27 x28 x29 x30 x31 x32 x33 x34 x35 x36 x37 x38 x39 x40 x41 x42 x43 x44 x45 x46 x47 x48 x49 x50 x51 x52 x53 x54 x55 x56 x57 x58 x59 x60 x61 x62 x63 x64 x65 x66 x67 x68 x69 x70 x71 x72 x73 x74 x75 x76 x77 x78 x79 x80 x81 x82 x83 x84 x85 x86 x87 x88 x89 x90 x91 x92 x93 x94 x95 x96 x97 x98 x99 x100 x101 x102 x103 x104 x105 x106 x107 x108 x109 x110 x111 x112 x113 x114 x115 x116 x117 x118 x119 x120 x121 x122 x123 x124 x125 x126 x127 x128 x129 x130 x131 x132 x133 x134 x135 x136 x137 x138 x139 x140 : Value)
    (hB : B = (findR 15 (Try.f35.body.getD .skip)).getD .skip) (h : RL w0 B0 q cs v F w) (hb0 : B0 ≤ w0.heap.size) (hF : F.length ≤ 100000000)
    (hK : ∀ (v' u58 u59 u60 u61 : Value) (wx : World), RL w0 B0 q cs v' (F ++ [mk7 124]) wx → K { tmps := List.toArray (x0 :: x1 :: x2 :: x3 :: x4 :: x5 :: x6 :: x7 :: v' :: x9 :: x10 :: x11 :: x12 :: x13 :: x14 :: x15 :: x16 :: x17 :: x18 :: x19 :: x20 :: x21 :: x22 :: x23 :: x24 :: x25 :: x26 :: x27 :: x28 :: x29 :: x30 :: x31 :: x32 :: x33 :: x34 :: x35 :: x36 :: x37 :: x38 :: x39 :: x40 :: x41 :: x42 :: x43 :: x44 :: x45 :: x46 :: x47 :: x48 :: x49 :: x50 :: x51 :: x52 :: x53 :: x54 :: x55 :: x56 :: x57 :: u58 :: u59 :: u60 :: u61 :: x62 :: x63 :: x64 :: x65 :: x66 :: x67 :: x68 :: x69 :: x70 :: x71 :: x72 :: x73 :: x74 :: x75 :: x76 :: x77 :: x78 :: x79 :: x80 :: x81 :: x82 :: x83 :: x84 :: x85 :: x86 :: x87 :: x88 :: x89 :: x90 :: x91 :: x92 :: x93 :: x94 :: x95 :: x96 :: x97 :: x98 :: x99 :: x100 :: x101 :: x102 :: x103 :: x104 :: x105 :: x106 :: x107 :: x108 :: x109 :: x110 :: x111 :: x112 :: x113 :: x114 :: x115 :: x116 :: x117 :: x118 :: x119 :: x120 :: x121 :: x122 :: x123 :: x124 :: x125 :: x126 :: x127 :: x128 :: x129 :: x130 :: x131 :: x132 :: x133 :: x134 :: x135 :: x136 :: x137 :: x138 :: x139 :: x140 :: []), defers := [] } wx) :
    Code.wp Try.prog B (Exit.then K Q') { tmps := List.toArray (x0 :: x1 :: x2 :: x3 :: x4 :: x5 :: x6 :: x7 :: v :: x9 :: x10 :: x11 :: x12 :: x13 :: x14 :: x15 :: x16 :: x17 :: x18 :: x19 :: x20 :: x21 :: x22 :: x23 :: x24 :: x25 :: x26 :: x27 :: x28 :: x29 :: x30 :: x31 :: x32 :: x33 :: x34 :: x35 :: x36 :: x37 :: x38 :: x39 :: x40 :: x41 :: x42 :: x43 :: x44 :: x45 :: x46 :: x47 :: x48 :: x49 :: x50 :: x51 :: x52 :: x53 :: x54 :: x55 :: x56 :: x57 :: x58 :: x59 :: x60 :: x61 :: x62 :: x63 :: x64 :: x65 :: x66 :: x67 :: x68 :: x69 :: x70 :: x71 :: x72 :: x73 :: x74 :: x75 :: x76 :: x77 :: x78 :: x79 :: x80 :: x81 :: x82 :: x83 :: x84 :: x85 :: x86 :: x87 :: x88 :: x89 :: x90 :: x91 :: x92 :: x93 :: x94 :: x95 :: x96 :: x97 :: x98 :: x99 :: x100 :: x101 :: x102 :: x103 :: x104 :: x105 :: x106 :: x107 :: x108 :: x109 :: x110 :: x111 :: x112 :: x113 :: x114 :: x115 :: x116 :: x117 :: x118 :: x119 :: x120 :: x121 :: x122 :: x123 :: x124 :: x125 :: x126 :: x127 :: x128 :: x129 :: x130 :: x131 :: x132 :: x133 :: x134 :: x135 :: x136 :: x137 :: x138 :: x139 :: x140 :: []), defers := [] } w := by
  have HF := hide hK
  clear hK
  subst hB
  conv => arg 2; whnf
  have H := hide h
  have HM := hide (mark_any 124 w (by decide))
  obtain ⟨M, hM⟩ : ∃ M, M = mk7 124 := ⟨_, rfl⟩
  rw [← hM] at HF HM
  clear h hM
  go_wp2_with fail
  refine HM.out.mono ?_
  rintro y w1 ⟨rfl, hb⟩
  have H1 := hide (H.out.below hb (H.out.base hb0))
  have Hbs := hide (H1.out.base hb0)
  clear hb HM
  rename_i KK hKK
  refine hKK _ _ ?_
  clear hKK KK
  go_wp2_with (at_builtin; go_loud (refine wpList_pushT rfl (.tmp 58) (.tmp 60) rfl B0 w0 v F M _ rfl rfl rfl H1.out.own (by omega) H1.out.low Hbs.out ?_; intro v1 w2 hown hb2 hg _))
  exact HF.out _ _ _ _ _ _ (H1.out.pushed hown hb2 hg)
set_option maxRecDepth 100000 in
set_option maxHeartbeats 2000000 in
theorem rl_mark20 {B : Code} {K : Act → World → Prop} {Q' : Exit → Act → World → Prop} {w0 w : World} {B0 q : Nat} {cs : List Value} {v : Value} {F : Ls} (x0 x1 x2 x3 x4 x5 x6 x7 x9 x10 x11 x12 x13 x14 x15 x16 x17 x18 x19 x20 x21 x22 x23 x24 x25 x26 x27 x28 x29 x30 x31 x32 x33 x34 x35 x36 x37 x38 x39 x40 x41 x42 x43 x44 x45 x46 x47 x48 x49 x50 x51 x52 x53 x54 x55 x56 x57 x58 x59 x60 x61 x62 x63 x64 x65 x66 x67 x68 x69 x70 x71 x72 x73 x74 x75 x76 x77 x78 x79 x80 x81 x82 x83 x84 x85 x86 x87 x88 x89 x90 x91 x92 x93 x94 x95 x96 x97 x98 x99 x100 x101 x102 x103 x104 x105 x106 x107 x108 x109 x110 x111 x112 x113 x114 x115 x116 x117 x118 x119 x120 x121 x122 x123 x124 x125 x126 x127 x128 x129 x130 x131 x132 x133 x134 x135 x136 x137 x138 x139 x140 : Value)
    (hB : B = (findR 20 (Try.f35.body.getD .skip)).getD .skip) (h : RL w0 B0 q cs v F w) (hb0 : B0 ≤ w0.heap.size) (hF : F.length ≤ 100000000)
    (hK : ∀ (v' u81 u82 u83 u84 : Value) (wx : World), RL w0 B0 q cs v' (F ++ [mk7 61]) wx → K { tmps := List.toArray (x0 :: x1 :: x2 :: x3 :: x4 :: x5 :: x6 :: x7 :: v' :: x9 :: x10 :: x11 :: x12 :: x13 :: x14 :: x15 :: x16 :: x17 :: x18 :: x19 :: x20 :: x21 :: x22 :: x23 :: x24 :: x25 :: x26 :: x27 :: x28 :: x29 :: x30 :: x31 :: x32 :: x33 :: x34 :: x35 :: x36 :: x37 :: x38 :: x39 :: x40 :: x41 :: x42 :: x43 :: x44 :: x45 :: x46 :: x47 :: x48 :: x49 :: x50 :: x51 :: x52 :: x53 :: x54 :: x55 :: x56 :: x57 :: x58 :: x59 :: x60 :: x61 :: x62 :: x63 :: x64 :: x65 :: x66 :: x67 :: x68 :: x69 :: x70 :: x71 :: x72 :: x73 :: x74 :: x75 :: x76 :: x77 :: x78 :: x79 :: x80 :: u81 :: u82 :: u83 :: u84 :: x85 :: x86 :: x87 :: x88 :: x89 :: x90 :: x91 :: x92 :: x93 :: x94 :: x95 :: x96 :: x97 :: x98 :: x99 :: x100 :: x101 :: x102 :: x103 :: x104 :: x105 :: x106 :: x107 :: x108 :: x109 :: x110 :: x111 :: x112 :: x113 :: x114 :: x115 :: x116 :: x117 :: x118 :: x119 :: x120 :: x121 :: x122 :: x123 :: x124 :: x125 :: x126 :: x127 :: x128 :: x129 :: x130 :: x131 :: x132 :: x133 :: x134 :: x135 :: x136 :: x137 :: x138 :: x139 :: x140 :: []), defers := [] } wx) :
    Code.wp Try.prog B (Exit.then K Q') { tmps := List.toArray (x0 :: x1 :: x2 :: x3 :: x4 :: x5 :: x6 :: x7 :: v :: x9 :: x10 :: x11 :: x12 :: x13 :: x14 :: x15 :: x16 :: x17 :: x18 :: x19 :: x20 :: x21 :: x22 :: x23 :: x24 :: x25 :: x26 :: x27 :: x28 :: x29 :: x30 :: x31 :: x32 :: x33 :: x34 :: x35 :: x36 :: x37 :: x38 :: x39 :: x40 :: x41 :: x42 :: x43 :: x44 :: x45 :: x46 :: x47 :: x48 :: x49 :: x50 :: x51 :: x52 :: x53 :: x54 :: x55 :: x56 :: x57 :: x58 :: x59 :: x60 :: x61 :: x62 :: x63 :: x64 :: x65 :: x66 :: x67 :: x68 :: x69 :: x70 :: x71 :: x72 :: x73 :: x74 :: x75 :: x76 :: x77 :: x78 :: x79 :: x80 :: x81 :: x82 :: x83 :: x84 :: x85 :: x86 :: x87 :: x88 :: x89 :: x90 :: x91 :: x92 :: x93 :: x94 :: x95 :: x96 :: x97 :: x98 :: x99 :: x100 :: x101 :: x102 :: x103 :: x104 :: x105 :: x106 :: x107 :: x108 :: x109 :: x110 :: x111 :: x112 :: x113 :: x114 :: x115 :: x116 :: x117 :: x118 :: x119 :: x120 :: x121 :: x122 :: x123 :: x124 :: x125 :: x126 :: x127 :: x128 :: x129 :: x130 :: x131 :: x132 :: x133 :: x134 :: x135 :: x136 :: x137 :: x138 :: x139 :: x140 :: []), defers := [] } w := by
  have HF := hide hK
  clear hK
  subst hB
  conv => arg 2; whnf
  have H := hide h
  have HM := hide (mark_any 61 w (by decide))
  obtain ⟨M, hM⟩ : ∃ M, M = mk7 61 := ⟨_, rfl⟩
  rw [← hM] at HF HM
  clear h hM
  go_wp2_with fail
  refine HM.out.mono ?_
  rintro y w1 ⟨rfl, hb⟩
  have H1 := hide (H.out.below hb (H.out.base hb0))
  have Hbs := hide (H1.out.base hb0)
  clear hb HM
  rename_i KK hKK
  refine hKK _ _ ?_
  clear hKK KK
  go_wp2_with (at_builtin; go_loud (refine wpList_pushT rfl (.tmp 81) (.tmp 83) rfl B0 w0 v F M _ rfl rfl rfl H1.out.own (by omega) H1.out.low Hbs.out ?_; intro v1 w2 hown hb2 hg _))
  exact HF.out _ _ _ _ _ _ (H1.out.pushed hown hb2 hg)
set_option maxRecDepth 100000 in
set_option maxHeartbeats 2000000 in
theorem rl_mark25 {B : Code} {K : Act → World → Prop} {Q' : Exit → Act → World → Prop} {w0 w : World} {B0 q : Nat} {cs : List Value} {v : Value} {F : Ls} (x0 x1 x2 x3 x4 x5 x6 x7 x9 x10 x11 x12 x13 x14 x15 x16 x17 x18 x19 x20 x21 x22 x23 x24 x25 x26 x27 x28 x29 x30 x31 x32 x33 x34 x35 x36 x37 x38 x39 x40 x41 x42 x43 x44 x45 x46 x47 x48 x49 x50 x51 x52 x53 x54 x55 x56 x57 x58 x59 x60 x61 x62 x63 x64 x65 x66 x67 x68 x69 x70 x71 x72 x73 x74 x75 x76 x77 x78 x79 x80 x81 x82 x83 x84 x85 x86 x87 x88 x89 x90 x91 x92 x93 x94 x95 x96 x97 x98 x99 x100 x101 x102 x103 x104 x105 x106 x107 x108 x109 x110 x111 x112 x113 x114 x115 x116 x117 x118 x119 x120 x121 x122 x123 x124 x125 x126 x127 x128 x129 x130 x131 x132 x133 x134 x135 x136 x137 x138 x139 x140 : Value)
    (hB : B = (findR 25 (Try.f35.body.getD .skip)).getD .skip) (h : RL w0 B0 q cs v F w) (hb0 : B0 ≤ w0.heap.size) (hF : F.length ≤ 100000000)
    (hK : ∀ (v' u104 u105 u106 u107 : Value) (wx : World), RL w0 B0 q cs v' (F ++ [mk7 62]) wx → K { tmps := List.toArray (x0 :: x1 :: x2 :: x3 :: x4 :: x5 :: x6 :: x7 :: v' :: x9 :: x10 :: x11 :: x12 :: x13 :: x14 :: x15 :: x16 :: x17 :: x18 :: x19 :: x20 :: x21 :: x22 :: x23 :: x24 :: x25 :: x26 :: x27 :: x28 :: x29 :: x30 :: x31 :: x32 :: x33 :: x34 :: x35 :: x36 :: x37 :: x38 :: x39 :: x40 :: x41 :: x42 :: x43 :: x44 :: x45 :: x46 :: x47 :: x48 :: x49 :: x50 :: x51 :: x52 :: x53 :: x54 :: x55 :: x56 :: x57 :: x58 :: x59 :: x60 :: x61 :: x62 :: x63 :: x64 :: x65 :: x66 :: x67 :: x68 :: x69 :: x70 :: x71 :: x72 :: x73 :: x74 :: x75 :: x76 :: x77 :: x78 :: x79 :: x80 :: x81 :: x82 :: x83 :: x84 :: x85 :: x86 :: x87 :: x88 :: x89 :: x90 :: x91 :: x92 :: x93 :: x94 :: x95 :: x96 :: x97 :: x98 :: x99 :: x100 :: x101 :: x102 :: x103 :: u104 :: u105 :: u106 :: u107 :: x108 :: x109 :: x110 :: x111 :: x112 :: x113 :: x114 :: x115 :: x116 :: x117 :: x118 :: x119 :: x120 :: x121 :: x122 :: x123 :: x124 :: x125 :: x126 :: x127 :: x128 :: x129 :: x130 :: x131 :: x132 :: x133 :: x134 :: x135 :: x136 :: x137 :: x138 :: x139 :: x140 :: []), defers := [] } wx) :
    Code.wp Try.prog B (Exit.then K Q') { tmps := List.toArray (x0 :: x1 :: x2 :: x3 :: x4 :: x5 :: x6 :: x7 :: v :: x9 :: x10 :: x11 :: x12 :: x13 :: x14 :: x15 :: x16 :: x17 :: x18 :: x19 :: x20 :: x21 :: x22 :: x23 :: x24 :: x25 :: x26 :: x27 :: x28 :: x29 :: x30 :: x31 :: x32 :: x33 :: x34 :: x35 :: x36 :: x37 :: x38 :: x39 :: x40 :: x41 :: x42 :: x43 :: x44 :: x45 :: x46 :: x47 :: x48 :: x49 :: x50 :: x51 :: x52 :: x53 :: x54 :: x55 :: x56 :: x57 :: x58 :: x59 :: x60 :: x61 :: x62 :: x63 :: x64 :: x65 :: x66 :: x67 :: x68 :: x69 :: x70 :: x71 :: x72 :: x73 :: x74 :: x75 :: x76 :: x77 :: x78 :: x79 :: x80 :: x81 :: x82 :: x83 :: x84 :: x85 :: x86 :: x87 :: x88 :: x89 :: x90 :: x91 :: x92 :: x93 :: x94 :: x95 :: x96 :: x97 :: x98 :: x99 :: x100 :: x101 :: x102 :: x103 :: x104 :: x105 :: x106 :: x107 :: x108 :: x109 :: x110 :: x111 :: x112 :: x113 :: x114 :: x115 :: x116 :: x117 :: x118 :: x119 :: x120 :: x121 :: x122 :: x123 :: x124 :: x125 :: x126 :: x127 :: x128 :: x129 :: x130 :: x131 :: x132 :: x133 :: x134 :: x135 :: x136 :: x137 :: x138 :: x139 :: x140 :: []), defers := [] } w := by
  have HF := hide hK
  clear hK
  subst hB
  conv => arg 2; whnf
  have H := hide h
  have HM := hide (mark_any 62 w (by decide))
  obtain ⟨M, hM⟩ : ∃ M, M = mk7 62 := ⟨_, rfl⟩
  rw [← hM] at HF HM
  clear h hM
  go_wp2_with fail
  refine HM.out.mono ?_
  rintro y w1 ⟨rfl, hb⟩
  have H1 := hide (H.out.below hb (H.out.base hb0))
  have Hbs := hide (H1.out.base hb0)
  clear hb HM
  rename_i KK hKK
  refine hKK _ _ ?_
  clear hKK KK
  go_wp2_with (at_builtin; go_loud (refine wpList_pushT rfl (.tmp 104) (.tmp 106) rfl B0 w0 v F M _ rfl rfl rfl H1.out.own (by omega) H1.out.low Hbs.out ?_; intro v1 w2 hown hb2 hg _))
  exact HF.out _ _ _ _ _ _ (H1.out.pushed hown hb2 hg)
set_option maxRecDepth 100000 in
set_option maxHeartbeats 4000000 in
theorem rl_side2 {B : Code} {K : Act → World → Prop} {Q' : Exit → Act → World → Prop} {w0 w : World} {B0 q x m c : Nat} {A : Option Addr} {P : Nat → Prop} {l : Ls} {cs : List Value} {v : Value} {F : Ls} (x0 x2 x3 x4 x5 x6 x7 x9 x10 x11 x14 x15 x16 x17 x18 x19 x20 x21 x22 x23 x24 x25 x26 x27 x28 x29 x30 x31 x32 x33 x34 x35 x36 x37 x38 x39 x40 x41 x42 x43 x44 x45 x46 x47 x48 x49 x50 x51 x52 x53 x54 x55 x56 x57 x58 x59 x60 x61 x62 x63 x64 x65 x66 x67 x68 x69 x70 x71 x72 x73 x74 x75 x76 x77 x78 x79 x80 x81 x82 x83 x84 x85 x86 x87 x88 x89 x90 x91 x92 x93 x94 x95 x96 x97 x98 x99 x100 x101 x102 x103 x104 x105 x106 x107 x108 x109 x110 x111 x112 x113 x114 x115 x116 x117 x118 x119 x120 x121 x122 x123 x124 x125 x126 x127 x128 x129 x130 x131 x132 x133 x134 x135 x136 x137 x138 x139 x140 : Value)
    (hB : B = (findB 2 (Try.f35.body.getD .skip)).getD .skip) (h : RL w0 B0 q cs v F w) (hb0 : B0 ≤ w0.heap.size) (hF : F.length ≤ 100000000)
    (hs : Vs w0 P A c (texts l)) (hP : ∀ k, P k → k < B0) (hx : x + m ≤ l.length) (hl : l.length ≤ 1000) (hf : Fit l) (c0 : cs[3]? = some (.int .i64 x)) (c1 : cs[4]? = some (.int .i64 m))
    (hK : ∀ (v' u39 u40 u41 u42 u43 u44 u45 u46 u47 u48 u49 u50 u51 u52 u53 u54 u55 u56 u57 : Value) (wx : World), RL w0 B0 q cs v' (F ++ (cut l x m).map shut) wx → K { tmps := List.toArray (x0 :: (.slice A l.length c) :: x2 :: x3 :: x4 :: x5 :: x6 :: x7 :: v' :: x9 :: x10 :: x11 :: (.pointer (some ⟨q, 0, none⟩)) :: (.int .i64 m) :: x14 :: x15 :: x16 :: x17 :: x18 :: x19 :: x20 :: x21 :: x22 :: x23 :: x24 :: x25 :: x26 :: x27 :: x28 :: x29 :: x30 :: x31 :: x32 :: x33 :: x34 :: x35 :: x36 :: x37 :: x38 :: u39 :: u40 :: u41 :: u42 :: u43 :: u44 :: u45 :: u46 :: u47 :: u48 :: u49 :: u50 :: u51 :: u52 :: u53 :: u54 :: u55 :: u56 :: u57 :: x58 :: x59 :: x60 :: x61 :: x62 :: x63 :: x64 :: x65 :: x66 :: x67 :: x68 :: x69 :: x70 :: x71 :: x72 :: x73 :: x74 :: x75 :: x76 :: x77 :: x78 :: x79 :: x80 :: x81 :: x82 :: x83 :: x84 :: x85 :: x86 :: x87 :: x88 :: x89 :: x90 :: x91 :: x92 :: x93 :: x94 :: x95 :: x96 :: x97 :: x98 :: x99 :: x100 :: x101 :: x102 :: x103 :: x104 :: x105 :: x106 :: x107 :: x108 :: x109 :: x110 :: x111 :: x112 :: x113 :: x114 :: x115 :: x116 :: x117 :: x118 :: x119 :: x120 :: x121 :: x122 :: x123 :: x124 :: x125 :: x126 :: x127 :: x128 :: x129 :: x130 :: x131 :: x132 :: x133 :: x134 :: x135 :: x136 :: x137 :: x138 :: x139 :: x140 :: []), defers := [] } wx) :
    Code.wp Try.prog B (Exit.then K Q') { tmps := List.toArray (x0 :: (.slice A l.length c) :: x2 :: x3 :: x4 :: x5 :: x6 :: x7 :: v :: x9 :: x10 :: x11 :: (.pointer (some ⟨q, 0, none⟩)) :: (.int .i64 0) :: x14 :: x15 :: x16 :: x17 :: x18 :: x19 :: x20 :: x21 :: x22 :: x23 :: x24 :: x25 :: x26 :: x27 :: x28 :: x29 :: x30 :: x31 :: x32 :: x33 :: x34 :: x35 :: x36 :: x37 :: x38 :: x39 :: x40 :: x41 :: x42 :: x43 :: x44 :: x45 :: x46 :: x47 :: x48 :: x49 :: x50 :: x51 :: x52 :: x53 :: x54 :: x55 :: x56 :: x57 :: x58 :: x59 :: x60 :: x61 :: x62 :: x63 :: x64 :: x65 :: x66 :: x67 :: x68 :: x69 :: x70 :: x71 :: x72 :: x73 :: x74 :: x75 :: x76 :: x77 :: x78 :: x79 :: x80 :: x81 :: x82 :: x83 :: x84 :: x85 :: x86 :: x87 :: x88 :: x89 :: x90 :: x91 :: x92 :: x93 :: x94 :: x95 :: x96 :: x97 :: x98 :: x99 :: x100 :: x101 :: x102 :: x103 :: x104 :: x105 :: x106 :: x107 :: x108 :: x109 :: x110 :: x111 :: x112 :: x113 :: x114 :: x115 :: x116 :: x117 :: x118 :: x119 :: x120 :: x121 :: x122 :: x123 :: x124 :: x125 :: x126 :: x127 :: x128 :: x129 :: x130 :: x131 :: x132 :: x133 :: x134 :: x135 :: x136 :: x137 :: x138 :: x139 :: x140 :: []), defers := [] } w := by
  have HF := hide hK
  clear hK
  subst hB
  conv => arg 2; whnf
  have H := hide h
  have Hs := hide (show ∀ wr, Below B0 w0 wr → Vs wr P A c (texts l) from fun wr hb => Lw.Vs.move hs fun k hk _ => hb.block k (hP k hk))
  have Hf := hide hf
  have HC0 := hide c0
  have HC1 := hide c1
  have Hl := hide (cut_len (l := l) (x := x) (n := m) rfl rfl hx)
  clear h hs hP hf c0 c1
  go_wp2
  go_loopw [8, 13] (fun sv i wr => ∃ (k : Nat) (v0 : Value), v0 = sv ∧ k ≤ m ∧ i = .int .i64 k ∧ Hid (RL w0 B0 q cs v0 (F ++ ((cut l x m).take k).map shut) wr)) (fun _ i _ => m - (intOf i).toNat)
  case atStart => exact ⟨0, _, rfl, Nat.zero_le _, rfl, by show Hid _; exact hide (by simpa using H.out)⟩
  case round =>
    obtain ⟨k, v, rfl, hk, rfl, H⟩ := hrel
    have q0 := (H.out.row.cell 3).trans HC0.out
    have q1 := (H.out.row.cell 4).trans HC1.out
    by_cases hlt : k < m
    · obtain ⟨xk, hxk⟩ : ∃ z, z = x + k := ⟨_, rfl⟩
      have hwr : IntKind.i64.wrap ((x : Int) + (k : Int)) = (xk : Int) := by rw [IntWalk.i64_in _ (by omega)]; omega
      obtain ⟨b, ob, rfl, ck⟩ := vs_at (Hs.out wr H.out.low) (k := xk) (by omega)
      have Hct := hide (cut_take l x m k hx hlt)
      rw [← hxk] at Hct
      have Hfk := hide (Hf.out.at (k := xk) (by omega))
      have hcap := (Hs.out wr H.out.low).1
      rw [texts_len] at hcap
      have Hlen := hide (show (F ++ ((cut l x m).take k).map shut).length ≤ 100001000 by rw [List.length_append, List.length_map, List.length_take]; omega)
      obtain ⟨G, hG⟩ : ∃ G, G = F ++ ((cut l x m).take k).map shut := ⟨_, rfl⟩
      have Hn := hide (show F ++ ((cut l x m).take (k + 1)).map shut = G ++ [shut (l.getD xk [])] by rw [Hct.out, List.map_append, hG, List.append_assoc]; rfl)
      rw [← hG] at Hlen
      have H0 := hide (show RL w0 B0 q cs v G wr by rw [hG]; exact H.out)
      generalize l.getD xk [] = y at *
      have HR := hide (rclosed_any y wr Hfk.out)
      generalize shut y = z at *
      have hxN : xk < l.length := by omega
      clear Hct hG H hxk Hfk
      go_wp2_with fail
      refine HR.out.mono ?_
      rintro y1 w1 ⟨rfl, hb⟩
      have H1 := hide (H0.out.below hb (H0.out.base hb0))
      have Hbs := hide (H1.out.base hb0)
      clear hb HR q0 q1 ck
      rename_i KK hKK
      refine hKK _ _ ?_
      clear hKK KK
      go_wp2_with (at_builtin; go_loud (refine wpList_pushT rfl (.tmp 46) (.tmp 56) rfl B0 w0 v G z _ rfl rfl rfl H1.out.own (by have := Hlen.out; omega) H1.out.low Hbs.out ?_; intro v1 w2 hown hb2 hg _))
      have HX := hide (H1.out.pushed hown hb2 hg)
      exact ⟨⟨k + 1, _, rfl, by omega, by go_num, by show Hid _; exact hide (by rw [Hn.out]; exact HX.out)⟩, by simp [intOf]; omega⟩
    · obtain rfl : k = m := by omega
      have hR := H.out
      rw [List.take_of_length_le (by rw [Hl.out]; exact Nat.le_refl _)] at hR
      have HR := hide hR
      clear hR H
      go_wp2
      exact HF.out _ _ _ _ _ _ _ _ _ _ _ _ _ _ _ _ _ _ _ _ _ HR.out
set_option maxRecDepth 100000 in
set_option maxHeartbeats 4000000 in
theorem rl_side4 {B : Code} {K : Act → World → Prop} {Q' : Exit → Act → World → Prop} {w0 w : World} {B0 q x m c : Nat} {A : Option Addr} {P : Nat → Prop} {l : Ls} {cs : List Value} {v : Value} {F : Ls} (x1 x2 x3 x4 x5 x6 x7 x9 x10 x11 x13 x15 x16 x17 x18 x19 x20 x21 x22 x23 x24 x25 x26 x27 x28 x29 x30 x31 x32 x33 x34 x35 x36 x37 x38 x39 x40 x41 x42 x43 x44 x45 x46 x47 x48 x49 x50 x51 x52 x53 x54 x55 x56 x57 x58 x59 x60 x61 x62 x63 x64 x65 x66 x67 x68 x69 x70 x71 x72 x73 x74 x75 x76 x77 x78 x79 x80 x81 x82 x83 x84 x85 x86 x87 x88 x89 x90 x91 x92 x93 x94 x95 x96 x97 x98 x99 x100 x101 x102 x103 x104 x105 x106 x107 x108 x109 x110 x111 x112 x113 x114 x115 x116 x117 x118 x119 x120 x121 x122 x123 x124 x125 x126 x127 x128 x129 x130 x131 x132 x133 x134 x135 x136 x137 x138 x139 x140 : Value)
    (hB : B = (findB 4 (Try.f35.body.getD .skip)).getD .skip) (h : RL w0 B0 q cs v F w) (hb0 : B0 ≤ w0.heap.size) (hF : F.length ≤ 100000000)
    (hs : Vs w0 P A c (texts l)) (hP : ∀ k, P k → k < B0) (hx : x + m ≤ l.length) (hl : l.length ≤ 1000) (hf : Fit l) (c0 : cs[1]? = some (.int .i64 x)) (c1 : cs[2]? = some (.int .i64 m))
    (hK : ∀ (v' u62 u63 u64 u65 u66 u67 u68 u69 u70 u71 u72 u73 u74 u75 u76 u77 u78 u79 u80 : Value) (wx : World), RL w0 B0 q cs v' (F ++ (cut l x m).map shut) wx → K { tmps := List.toArray ((.slice A l.length c) :: x1 :: x2 :: x3 :: x4 :: x5 :: x6 :: x7 :: v' :: x9 :: x10 :: x11 :: (.pointer (some ⟨q, 0, none⟩)) :: x13 :: (.int .i64 m) :: x15 :: x16 :: x17 :: x18 :: x19 :: x20 :: x21 :: x22 :: x23 :: x24 :: x25 :: x26 :: x27 :: x28 :: x29 :: x30 :: x31 :: x32 :: x33 :: x34 :: x35 :: x36 :: x37 :: x38 :: x39 :: x40 :: x41 :: x42 :: x43 :: x44 :: x45 :: x46 :: x47 :: x48 :: x49 :: x50 :: x51 :: x52 :: x53 :: x54 :: x55 :: x56 :: x57 :: x58 :: x59 :: x60 :: x61 :: u62 :: u63 :: u64 :: u65 :: u66 :: u67 :: u68 :: u69 :: u70 :: u71 :: u72 :: u73 :: u74 :: u75 :: u76 :: u77 :: u78 :: u79 :: u80 :: x81 :: x82 :: x83 :: x84 :: x85 :: x86 :: x87 :: x88 :: x89 :: x90 :: x91 :: x92 :: x93 :: x94 :: x95 :: x96 :: x97 :: x98 :: x99 :: x100 :: x101 :: x102 :: x103 :: x104 :: x105 :: x106 :: x107 :: x108 :: x109 :: x110 :: x111 :: x112 :: x113 :: x114 :: x115 :: x116 :: x117 :: x118 :: x119 :: x120 :: x121 :: x122 :: x123 :: x124 :: x125 :: x126 :: x127 :: x128 :: x129 :: x130 :: x131 :: x132 :: x133 :: x134 :: x135 :: x136 :: x137 :: x138 :: x139 :: x140 :: []), defers := [] } wx) :
    Code.wp Try.prog B (Exit.then K Q') { tmps := List.toArray ((.slice A l.length c) :: x1 :: x2 :: x3 :: x4 :: x5 :: x6 :: x7 :: v :: x9 :: x10 :: x11 :: (.pointer (some ⟨q, 0, none⟩)) :: x13 :: (.int .i64 0) :: x15 :: x16 :: x17 :: x18 :: x19 :: x20 :: x21 :: x22 :: x23 :: x24 :: x25 :: x26 :: x27 :: x28 :: x29 :: x30 :: x31 :: x32 :: x33 :: x34 :: x35 :: x36 :: x37 :: x38 :: x39 :: x40 :: x41 :: x42 :: x43 :: x44 :: x45 :: x46 :: x47 :: x48 :: x49 :: x50 :: x51 :: x52 :: x53 :: x54 :: x55 :: x56 :: x57 :: x58 :: x59 :: x60 :: x61 :: x62 :: x63 :: x64 :: x65 :: x66 :: x67 :: x68 :: x69 :: x70 :: x71 :: x72 :: x73 :: x74 :: x75 :: x76 :: x77 :: x78 :: x79 :: x80 :: x81 :: x82 :: x83 :: x84 :: x85 :: x86 :: x87 :: x88 :: x89 :: x90 :: x91 :: x92 :: x93 :: x94 :: x95 :: x96 :: x97 :: x98 :: x99 :: x100 :: x101 :: x102 :: x103 :: x104 :: x105 :: x106 :: x107 :: x108 :: x109 :: x110 :: x111 :: x112 :: x113 :: x114 :: x115 :: x116 :: x117 :: x118 :: x119 :: x120 :: x121 :: x122 :: x123 :: x124 :: x125 :: x126 :: x127 :: x128 :: x129 :: x130 :: x131 :: x132 :: x133 :: x134 :: x135 :: x136 :: x137 :: x138 :: x139 :: x140 :: []), defers := [] } w := by
  have HF := hide hK
  clear hK
  subst hB
  conv => arg 2; whnf
  have H := hide h
  have Hs := hide (show ∀ wr, Below B0 w0 wr → Vs wr P A c (texts l) from fun wr hb => Lw.Vs.move hs fun k hk _ => hb.block k (hP k hk))
  have Hf := hide hf
  have HC0 := hide c0
  have HC1 := hide c1
  have Hl := hide (cut_len (l := l) (x := x) (n := m) rfl rfl hx)
  clear h hs hP hf c0 c1
  go_wp2
  go_loopw [8, 14] (fun sv i wr => ∃ (k : Nat) (v0 : Value), v0 = sv ∧ k ≤ m ∧ i = .int .i64 k ∧ Hid (RL w0 B0 q cs v0 (F ++ ((cut l x m).take k).map shut) wr)) (fun _ i _ => m - (intOf i).toNat)
  case atStart => exact ⟨0, _, rfl, Nat.zero_le _, rfl, by show Hid _; exact hide (by simpa using H.out)⟩
  case round =>
    obtain ⟨k, v, rfl, hk, rfl, H⟩ := hrel
    have q0 := (H.out.row.cell 1).trans HC0.out
    have q1 := (H.out.row.cell 2).trans HC1.out
    by_cases hlt : k < m
    · obtain ⟨xk, hxk⟩ : ∃ z, z = x + k := ⟨_, rfl⟩
      have hwr : IntKind.i64.wrap ((x : Int) + (k : Int)) = (xk : Int) := by rw [IntWalk.i64_in _ (by omega)]; omega
      obtain ⟨b, ob, rfl, ck⟩ := vs_at (Hs.out wr H.out.low) (k := xk) (by omega)
      have Hct := hide (cut_take l x m k hx hlt)
      rw [← hxk] at Hct
      have Hfk := hide (Hf.out.at (k := xk) (by omega))
      have hcap := (Hs.out wr H.out.low).1
      rw [texts_len] at hcap
      have Hlen := hide (show (F ++ ((cut l x m).take k).map shut).length ≤ 100001000 by rw [List.length_append, List.length_map, List.length_take]; omega)
      obtain ⟨G, hG⟩ : ∃ G, G = F ++ ((cut l x m).take k).map shut := ⟨_, rfl⟩
      have Hn := hide (show F ++ ((cut l x m).take (k + 1)).map shut = G ++ [shut (l.getD xk [])] by rw [Hct.out, List.map_append, hG, List.append_assoc]; rfl)
      rw [← hG] at Hlen
      have H0 := hide (show RL w0 B0 q cs v G wr by rw [hG]; exact H.out)
      generalize l.getD xk [] = y at *
      have HR := hide (rclosed_any y wr Hfk.out)
      generalize shut y = z at *
      have hxN : xk < l.length := by omega
      clear Hct hG H hxk Hfk
      go_wp2_with fail
      refine HR.out.mono ?_
      rintro y1 w1 ⟨rfl, hb⟩
      have H1 := hide (H0.out.below hb (H0.out.base hb0))
      have Hbs := hide (H1.out.base hb0)
      clear hb HR q0 q1 ck
      rename_i KK hKK
      refine hKK _ _ ?_
      clear hKK KK
      go_wp2_with (at_builtin; go_loud (refine wpList_pushT rfl (.tmp 69) (.tmp 79) rfl B0 w0 v G z _ rfl rfl rfl H1.out.own (by have := Hlen.out; omega) H1.out.low Hbs.out ?_; intro v1 w2 hown hb2 hg _))
      have HX := hide (H1.out.pushed hown hb2 hg)
      exact ⟨⟨k + 1, _, rfl, by omega, by go_num, by show Hid _; exact hide (by rw [Hn.out]; exact HX.out)⟩, by simp [intOf]; omega⟩
    · obtain rfl : k = m := by omega
      have hR := H.out
      rw [List.take_of_length_le (by rw [Hl.out]; exact Nat.le_refl _)] at hR
      have HR := hide hR
      clear hR H
      go_wp2
      exact HF.out _ _ _ _ _ _ _ _ _ _ _ _ _ _ _ _ _ _ _ _ _ HR.out
set_option maxRecDepth 100000 in
set_option maxHeartbeats 4000000 in
theorem rl_side6 {B : Code} {K : Act → World → Prop} {Q' : Exit → Act → World → Prop} {w0 w : World} {B0 q x m c : Nat} {A : Option Addr} {P : Nat → Prop} {l : Ls} {cs : List Value} {v : Value} {F : Ls} (x0 x1 x3 x4 x5 x6 x7 x9 x10 x11 x13 x14 x16 x17 x18 x19 x20 x21 x22 x23 x24 x25 x26 x27 x28 x29 x30 x31 x32 x33 x34 x35 x36 x37 x38 x39 x40 x41 x42 x43 x44 x45 x46 x47 x48 x49 x50 x51 x52 x53 x54 x55 x56 x57 x58 x59 x60 x61 x62 x63 x64 x65 x66 x67 x68 x69 x70 x71 x72 x73 x74 x75 x76 x77 x78 x79 x80 x81 x82 x83 x84 x85 x86 x87 x88 x89 x90 x91 x92 x93 x94 x95 x96 x97 x98 x99 x100 x101 x102 x103 x104 x105 x106 x107 x108 x109 x110 x111 x112 x113 x114 x115 x116 x117 x118 x119 x120 x121 x122 x123 x124 x125 x126 x127 x128 x129 x130 x131 x132 x133 x134 x135 x136 x137 x138 x139 x140 : Value)
    (hB : B = (findB 6 (Try.f35.body.getD .skip)).getD .skip) (h : RL w0 B0 q cs v F w) (hb0 : B0 ≤ w0.heap.size) (hF : F.length ≤ 100000000)
    (hs : Vs w0 P A c (texts l)) (hP : ∀ k, P k → k < B0) (hx : x + m ≤ l.length) (hl : l.length ≤ 1000) (hf : Fit l) (c0 : cs[5]? = some (.int .i64 x)) (c1 : cs[6]? = some (.int .i64 m))
    (hK : ∀ (v' u85 u86 u87 u88 u89 u90 u91 u92 u93 u94 u95 u96 u97 u98 u99 u100 u101 u102 u103 : Value) (wx : World), RL w0 B0 q cs v' (F ++ (cut l x m).map shut) wx → K { tmps := List.toArray (x0 :: x1 :: (.slice A l.length c) :: x3 :: x4 :: x5 :: x6 :: x7 :: v' :: x9 :: x10 :: x11 :: (.pointer (some ⟨q, 0, none⟩)) :: x13 :: x14 :: (.int .i64 m) :: x16 :: x17 :: x18 :: x19 :: x20 :: x21 :: x22 :: x23 :: x24 :: x25 :: x26 :: x27 :: x28 :: x29 :: x30 :: x31 :: x32 :: x33 :: x34 :: x35 :: x36 :: x37 :: x38 :: x39 :: x40 :: x41 :: x42 :: x43 :: x44 :: x45 :: x46 :: x47 :: x48 :: x49 :: x50 :: x51 :: x52 :: x53 :: x54 :: x55 :: x56 :: x57 :: x58 :: x59 :: x60 :: x61 :: x62 :: x63 :: x64 :: x65 :: x66 :: x67 :: x68 :: x69 :: x70 :: x71 :: x72 :: x73 :: x74 :: x75 :: x76 :: x77 :: x78 :: x79 :: x80 :: x81 :: x82 :: x83 :: x84 :: u85 :: u86 :: u87 :: u88 :: u89 :: u90 :: u91 :: u92 :: u93 :: u94 :: u95 :: u96 :: u97 :: u98 :: u99 :: u100 :: u101 :: u102 :: u103 :: x104 :: x105 :: x106 :: x107 :: x108 :: x109 :: x110 :: x111 :: x112 :: x113 :: x114 :: x115 :: x116 :: x117 :: x118 :: x119 :: x120 :: x121 :: x122 :: x123 :: x124 :: x125 :: x126 :: x127 :: x128 :: x129 :: x130 :: x131 :: x132 :: x133 :: x134 :: x135 :: x136 :: x137 :: x138 :: x139 :: x140 :: []), defers := [] } wx) :
    Code.wp Try.prog B (Exit.then K Q') { tmps := List.toArray (x0 :: x1 :: (.slice A l.length c) :: x3 :: x4 :: x5 :: x6 :: x7 :: v :: x9 :: x10 :: x11 :: (.pointer (some ⟨q, 0, none⟩)) :: x13 :: x14 :: (.int .i64 0) :: x16 :: x17 :: x18 :: x19 :: x20 :: x21 :: x22 :: x23 :: x24 :: x25 :: x26 :: x27 :: x28 :: x29 :: x30 :: x31 :: x32 :: x33 :: x34 :: x35 :: x36 :: x37 :: x38 :: x39 :: x40 :: x41 :: x42 :: x43 :: x44 :: x45 :: x46 :: x47 :: x48 :: x49 :: x50 :: x51 :: x52 :: x53 :: x54 :: x55 :: x56 :: x57 :: x58 :: x59 :: x60 :: x61 :: x62 :: x63 :: x64 :: x65 :: x66 :: x67 :: x68 :: x69 :: x70 :: x71 :: x72 :: x73 :: x74 :: x75 :: x76 :: x77 :: x78 :: x79 :: x80 :: x81 :: x82 :: x83 :: x84 :: x85 :: x86 :: x87 :: x88 :: x89 :: x90 :: x91 :: x92 :: x93 :: x94 :: x95 :: x96 :: x97 :: x98 :: x99 :: x100 :: x101 :: x102 :: x103 :: x104 :: x105 :: x106 :: x107 :: x108 :: x109 :: x110 :: x111 :: x112 :: x113 :: x114 :: x115 :: x116 :: x117 :: x118 :: x119 :: x120 :: x121 :: x122 :: x123 :: x124 :: x125 :: x126 :: x127 :: x128 :: x129 :: x130 :: x131 :: x132 :: x133 :: x134 :: x135 :: x136 :: x137 :: x138 :: x139 :: x140 :: []), defers := [] } w := by
  have HF := hide hK
  clear hK
  subst hB
  conv => arg 2; whnf
  have H := hide h
  have Hs := hide (show ∀ wr, Below B0 w0 wr → Vs wr P A c (texts l) from fun wr hb => Lw.Vs.move hs fun k hk _ => hb.block k (hP k hk))
  have Hf := hide hf
  have HC0 := hide c0
  have HC1 := hide c1
  have Hl := hide (cut_len (l := l) (x := x) (n := m) rfl rfl hx)
  clear h hs hP hf c0 c1
  go_wp2
  go_loopw [8, 15] (fun sv i wr => ∃ (k : Nat) (v0 : Value), v0 = sv ∧ k ≤ m ∧ i = .int .i64 k ∧ Hid (RL w0 B0 q cs v0 (F ++ ((cut l x m).take k).map shut) wr)) (fun _ i _ => m - (intOf i).toNat)
  case atStart => exact ⟨0, _, rfl, Nat.zero_le _, rfl, by show Hid _; exact hide (by simpa using H.out)⟩
  case round =>
    obtain ⟨k, v, rfl, hk, rfl, H⟩ := hrel
    have q0 := (H.out.row.cell 5).trans HC0.out
    have q1 := (H.out.row.cell 6).trans HC1.out
    by_cases hlt : k < m
    · obtain ⟨xk, hxk⟩ : ∃ z, z = x + k := ⟨_, rfl⟩
      have hwr : IntKind.i64.wrap ((x : Int) + (k : Int)) = (xk : Int) := by rw [IntWalk.i64_in _ (by omega)]; omega
      obtain ⟨b, ob, rfl, ck⟩ := vs_at (Hs.out wr H.out.low) (k := xk) (by omega)
      have Hct := hide (cut_take l x m k hx hlt)
      rw [← hxk] at Hct
      have Hfk := hide (Hf.out.at (k := xk) (by omega))
      have hcap := (Hs.out wr H.out.low).1
      rw [texts_len] at hcap
      have Hlen := hide (show (F ++ ((cut l x m).take k).map shut).length ≤ 100001000 by rw [List.length_append, List.length_map, List.length_take]; omega)
      obtain ⟨G, hG⟩ : ∃ G, G = F ++ ((cut l x m).take k).map shut := ⟨_, rfl⟩
      have Hn := hide (show F ++ ((cut l x m).take (k + 1)).map shut = G ++ [shut (l.getD xk [])] by rw [Hct.out, List.map_append, hG, List.append_assoc]; rfl)
      rw [← hG] at Hlen
      have H0 := hide (show RL w0 B0 q cs v G wr by rw [hG]; exact H.out)
      generalize l.getD xk [] = y at *
      have HR := hide (rclosed_any y wr Hfk.out)
      generalize shut y = z at *
      have hxN : xk < l.length := by omega
      clear Hct hG H hxk Hfk
      go_wp2_with fail
      refine HR.out.mono ?_
      rintro y1 w1 ⟨rfl, hb⟩
      have H1 := hide (H0.out.below hb (H0.out.base hb0))
      have Hbs := hide (H1.out.base hb0)
      clear hb HR q0 q1 ck
      rename_i KK hKK
      refine hKK _ _ ?_
      clear hKK KK
      go_wp2_with (at_builtin; go_loud (refine wpList_pushT rfl (.tmp 92) (.tmp 102) rfl B0 w0 v G z _ rfl rfl rfl H1.out.own (by have := Hlen.out; omega) H1.out.low Hbs.out ?_; intro v1 w2 hown hb2 hg _))
      have HX := hide (H1.out.pushed hown hb2 hg)
      exact ⟨⟨k + 1, _, rfl, by omega, by go_num, by show Hid _; exact hide (by rw [Hn.out]; exact HX.out)⟩, by simp [intOf]; omega⟩
    · obtain rfl : k = m := by omega
      have hR := H.out
      rw [List.take_of_length_le (by rw [Hl.out]; exact Nat.le_refl _)] at hR
      have HR := hide hR
      clear hR H
      go_wp2
      exact HF.out _ _ _ _ _ _ _ _ _ _ _ _ _ _ _ _ _ _ _ _ _ HR.out
end Go.Proofs.Ytghnieddokhagaa.Al
