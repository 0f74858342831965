/-
  The reference's Right: its spans, its tests.
-/
import Derived.BigQuiet
import Derived.Test.YteehbpnbephojaaJU
namespace Go.Proofs.Yteehbpnbephojaa.Al
open Go Go.RowKit Kt Kg Lw Li Df Kf

def hkF (k : Int) (d1 d2 d3 : Bool) : Bool := if k = 0 then d1 && d2 else if k = 1 then d2 else if k = 2 then d1 else if k = 3 then d3 else decide (k = 4)
theorem hk_is (k : Int) (p q r : Ls) : holdsK k p q r = hkF k (decide (p = q)) (decide (p = r)) (decide (q = r)) := rfl
set_option maxRecDepth 100000 in
set_option maxHeartbeats 1000000 in
theorem part_no (x f m : Int) (A : Option Addr) (n c : Nat) (w : World) (hx : 0 ≤ x ∧ x ≤ n) (hn : n ≤ 1000000000) (h : fol n x f m = false) :
    Calls Try.prog 25 #[.slice A n c, .agg #[.int .i64 f, .int .i64 m], .int .i64 x] w fun y w' => y = .returned (.tuple #[.slice none 0 0, .bool false]) ∧ Below w.heap.size w w' := by
  by_cases hf : f = x
  · subst hf
    have b0 : (f != f) = false := by simp
    have hg : decide ((n : Int) < f) = false := decide_eq_false (by omega)
    have hwr : IntKind.i64.wrap ((n : Int) - f) = (n : Int) - f := IntWalk.i64_in _ (by omega)
    by_cases hm : m < 0
    · have d1 : decide (m < 0) = true := decide_eq_true hm
      clear h hx hm
      go_enter Try.func25, Try.ntmps25
      go_wp2
      go_ret2
      exact ⟨rfl, (Below.refl _ w).alloc (Nat.le_refl _) _⟩
    · have d1 : decide (m < 0) = false := decide_eq_false hm
      have d2 : decide ((n : Int) - f < m) = true := decide_eq_true (by
        refine Classical.byContradiction fun hh => ?_
        rw [fol_yes.2 ⟨rfl, by omega, by omega⟩] at h
        cases h)
      clear h hx hm
      go_enter Try.func25, Try.ntmps25
      go_wp2
      go_ret2
      exact ⟨rfl, (Below.refl _ w).alloc (Nat.le_refl _) _⟩
  · have b0 : (f != x) = true := by rw [bne_iff_ne]; exact hf
    clear h hx hf
    go_enter Try.func25, Try.ntmps25
    go_wp2
    go_ret2
    exact ⟨rfl, (Below.refl _ w).alloc (Nat.le_refl _) _⟩
set_option maxRecDepth 100000 in
set_option maxHeartbeats 1000000 in
theorem part_yes (x m : Nat) (l : Ls) (A : Option Addr) (c : Nat) (P : Nat → Prop) (w : World) (hs : Vs w P A c (texts l)) (hx : x + m ≤ l.length) (hn : l.length ≤ 1000000000) :
    Calls Try.prog 25 #[.slice A l.length c, .agg #[.int .i64 x, .int .i64 m], .int .i64 x] w fun y w' => (∃ A' c', y = .returned (.tuple #[.slice A' m c', .bool true]) ∧ Vs w P A' c' (texts (cut l x m))) ∧ Below w.heap.size w w' := by
  have hcl := hs.1
  rw [texts_len] at hcl
  have Hv := hide (vs_cut hs (i := x) (j := x + m) (by omega) hx)
  have HV := hide (show texts ((l.drop x).take (x + m - x)) = texts (cut l x m) by unfold cut; rw [Int.toNat_natCast, Int.toNat_natCast, show x + m - x = m by omega])
  obtain ⟨n, hnn⟩ : ∃ n, n = l.length := ⟨_, rfl⟩
  rw [← hnn] at hx hn hcl ⊢
  obtain ⟨y, hy⟩ : ∃ y, y = x + m := ⟨_, rfl⟩
  have hm : m = y - x := by omega
  rw [← hy] at hx Hv HV
  obtain ⟨A', hA'⟩ : ∃ A', A' = (if c = x then A else A.map (·.add x)) := ⟨_, rfl⟩
  have hc := fun w => run_cut2 w A n c x y (by omega) (by omega)
  rw [← hA'] at hc Hv
  have b0 : ((x : Int) != (x : Int)) = false := by simp
  have d1 : decide ((m : Int) < 0) = false := decide_eq_false (by omega)
  have hg : decide ((n : Int) < (x : Int)) = false := decide_eq_false (by omega)
  have hg0 : decide (n < x) = false := decide_eq_false (by omega)
  have hwr : IntKind.i64.wrap ((n : Int) - (x : Int)) = (n : Int) - x := IntWalk.i64_in _ (by omega)
  have hwa : IntKind.i64.wrap ((x : Int) + (m : Int)) = (y : Int) := by rw [IntWalk.i64_in _ (by omega)]; omega
  have d2 : decide ((n : Int) - (x : Int) < (m : Int)) = false := decide_eq_false (by omega)
  have Hm := hide hm
  clear hs hcl hnn hx hn hy hm hA'
  go_enter Try.func25, Try.ntmps25
  go_wp2
  go_ret2
  refine ⟨⟨A', c - x, by rw [Hm.out]; rfl, by rw [← HV.out]; exact Hv.out⟩, (Below.refl _ w).alloc (Nat.le_refl _) _⟩

set_option maxRecDepth 100000 in
set_option maxHeartbeats 4000000 in
theorem rr10 {b0 o0 N c k : Nat} {kd : Int} {w : World} {B : Code} {K : Act → World → Prop} {Q' : Exit → Act → World → Prop} (x1 x2 x3 x4 x5 x6 x7 x8 x9 x10 x11 x13 x15 x17 x19 x20 x21 x22 x23 x24 x25 x26 x27 x28 x29 x30 x31 x32 x33 x34 x35 x36 x37 x38 x39 x40 x41 x42 x43 x44 x45 x46 x47 x48 x49 x50 x51 x52 x53 x54 x55 x56 x57 x58 x59 x60 x61 x62 x63 x64 x65 x66 x67 x68 x69 x70 x71 x72 x73 x74 x75 x76 x77 x78 x79 x80 x81 x82 x83 x84 x85 x86 x87 x88 x89 x90 x91 x92 x93 x94 x95 x96 x97 x98 x99 x100 x101 x102 x103 x104 x105 x106 x107 x108 x109 x110 x111 x112 x113 x114 x115 x116 x117 x118 x119 x120 x121 x122 x123 x124 x125 x126 x127 x128 x129 x130 x131 x132 x133 x134 x135 x136 x137 x138 x139 x140 x141 x142 x143 x144 x145 x146 x147 x148 x149 x150 x151 x152 x153 x154 x155 x156 x157 x158 x159 x160 x161 x162 x163 x164 x165 x166 x167 x168 x169 x170 x171 x172 x173 : Value)
    (hB : B = (findR 10 (Try.f12.body.getD .skip)).getD .skip) (b1 b2 b3 : Bool) (hlt : k < N) (c0 : w.cell? ⟨b0, o0 + k * 7, none⟩ = some (.int .i64 kd))
    (hK : ∀ (u61 u62 u63 u64 u65 u66 u67 u68 u69 u70 u71 u72 u73 u74 u75 u76 u77 u78 u79 u80 u81 u82 u83 u84 u85 : Value), K { tmps := List.toArray ((.slice (some ⟨b0, o0, none⟩) N c) :: x1 :: x2 :: x3 :: x4 :: x5 :: x6 :: x7 :: x8 :: x9 :: x10 :: x11 :: (.int .i64 k) :: x13 :: (.bool b1) :: x15 :: (.bool b2) :: x17 :: (.bool b3) :: x19 :: x20 :: x21 :: x22 :: x23 :: x24 :: x25 :: x26 :: x27 :: x28 :: x29 :: x30 :: x31 :: x32 :: x33 :: x34 :: x35 :: x36 :: x37 :: x38 :: x39 :: x40 :: x41 :: x42 :: x43 :: x44 :: x45 :: x46 :: x47 :: x48 :: x49 :: x50 :: x51 :: x52 :: x53 :: x54 :: x55 :: x56 :: x57 :: x58 :: x59 :: x60 :: (u61) :: (u62) :: (u63) :: (u64) :: (u65) :: (u66) :: (u67) :: (u68) :: (u69) :: (u70) :: (u71) :: (u72) :: (u73) :: (u74) :: (u75) :: (u76) :: (u77) :: (u78) :: (u79) :: (u80) :: (u81) :: (u82) :: (u83) :: (u84) :: (u85) :: (.bool (!(b1 && b2 && b3 && decide (0 ≤ kd) && decide (kd ≤ 4)))) :: x87 :: x88 :: x89 :: x90 :: x91 :: x92 :: x93 :: x94 :: x95 :: x96 :: x97 :: x98 :: x99 :: x100 :: x101 :: x102 :: x103 :: x104 :: x105 :: x106 :: x107 :: x108 :: x109 :: x110 :: x111 :: x112 :: x113 :: x114 :: x115 :: x116 :: x117 :: x118 :: x119 :: x120 :: x121 :: x122 :: x123 :: x124 :: x125 :: x126 :: x127 :: x128 :: x129 :: x130 :: x131 :: x132 :: x133 :: x134 :: x135 :: x136 :: x137 :: x138 :: x139 :: x140 :: x141 :: x142 :: x143 :: x144 :: x145 :: x146 :: x147 :: x148 :: x149 :: x150 :: x151 :: x152 :: x153 :: x154 :: x155 :: x156 :: x157 :: x158 :: x159 :: x160 :: x161 :: x162 :: x163 :: x164 :: x165 :: x166 :: x167 :: x168 :: x169 :: x170 :: x171 :: x172 :: x173 :: []), defers := [] } w) :
    Code.wp Try.prog B (Exit.then K Q') { tmps := List.toArray ((.slice (some ⟨b0, o0, none⟩) N c) :: x1 :: x2 :: x3 :: x4 :: x5 :: x6 :: x7 :: x8 :: x9 :: x10 :: x11 :: (.int .i64 k) :: x13 :: (.bool b1) :: x15 :: (.bool b2) :: x17 :: (.bool b3) :: x19 :: x20 :: x21 :: x22 :: x23 :: x24 :: x25 :: x26 :: x27 :: x28 :: x29 :: x30 :: x31 :: x32 :: x33 :: x34 :: x35 :: x36 :: x37 :: x38 :: x39 :: x40 :: x41 :: x42 :: x43 :: x44 :: x45 :: x46 :: x47 :: x48 :: x49 :: x50 :: x51 :: x52 :: x53 :: x54 :: x55 :: x56 :: x57 :: x58 :: x59 :: x60 :: x61 :: x62 :: x63 :: x64 :: x65 :: x66 :: x67 :: x68 :: x69 :: x70 :: x71 :: x72 :: x73 :: x74 :: x75 :: x76 :: x77 :: x78 :: x79 :: x80 :: x81 :: x82 :: x83 :: x84 :: x85 :: x86 :: x87 :: x88 :: x89 :: x90 :: x91 :: x92 :: x93 :: x94 :: x95 :: x96 :: x97 :: x98 :: x99 :: x100 :: x101 :: x102 :: x103 :: x104 :: x105 :: x106 :: x107 :: x108 :: x109 :: x110 :: x111 :: x112 :: x113 :: x114 :: x115 :: x116 :: x117 :: x118 :: x119 :: x120 :: x121 :: x122 :: x123 :: x124 :: x125 :: x126 :: x127 :: x128 :: x129 :: x130 :: x131 :: x132 :: x133 :: x134 :: x135 :: x136 :: x137 :: x138 :: x139 :: x140 :: x141 :: x142 :: x143 :: x144 :: x145 :: x146 :: x147 :: x148 :: x149 :: x150 :: x151 :: x152 :: x153 :: x154 :: x155 :: x156 :: x157 :: x158 :: x159 :: x160 :: x161 :: x162 :: x163 :: x164 :: x165 :: x166 :: x167 :: x168 :: x169 :: x170 :: x171 :: x172 :: x173 :: []), defers := [] } w := by
  have HF := hide hK
  clear hK
  subst hB
  conv => arg 2; whnf
  cases b1
  · go_wp2
    exact HF.out _ _ _ _ _ _ _ _ _ _ _ _ _ _ _ _ _ _ _ _ _ _ _ _ _
  · cases b2
    · go_wp2
      exact HF.out _ _ _ _ _ _ _ _ _ _ _ _ _ _ _ _ _ _ _ _ _ _ _ _ _
    · cases b3
      · go_wp2
        exact HF.out _ _ _ _ _ _ _ _ _ _ _ _ _ _ _ _ _ _ _ _ _ _ _ _ _
      · by_cases h0 : kd < 0
        · have d0 : decide (kd < 0) = true := decide_eq_true h0
          have d1 : decide (0 ≤ kd) = false := decide_eq_false (by omega)
          rw [d1] at HF
          clear h0 d1
          go_wp2
          exact HF.out _ _ _ _ _ _ _ _ _ _ _ _ _ _ _ _ _ _ _ _ _ _ _ _ _
        · have d0 : decide (kd < 0) = false := decide_eq_false h0
          have d1 : decide (0 ≤ kd) = true := decide_eq_true (by omega)
          rw [d1] at HF
          clear h0 d1
          by_cases h4 : kd ≤ 4
          · have d4 : decide (4 < kd) = false := decide_eq_false (by omega)
            rw [decide_eq_true h4] at HF
            clear h4
            go_wp2
            exact HF.out _ _ _ _ _ _ _ _ _ _ _ _ _ _ _ _ _ _ _ _ _ _ _ _ _
          · have d4 : decide (4 < kd) = true := decide_eq_true (by omega)
            rw [decide_eq_false h4] at HF
            clear h4
            go_wp2
            exact HF.out _ _ _ _ _ _ _ _ _ _ _ _ _ _ _ _ _ _ _ _ _ _ _ _ _
set_option maxRecDepth 100000 in
set_option maxHeartbeats 4000000 in
theorem rr15 {b0 o0 N c k : Nat} {kd : Int} {w : World} {B : Code} {K : Act → World → Prop} {Q' : Exit → Act → World → Prop} (x1 x2 x3 x4 x5 x6 x7 x8 x9 x10 x11 x13 x14 x15 x16 x17 x18 x22 x23 x24 x25 x26 x27 x28 x29 x30 x31 x32 x33 x34 x35 x36 x37 x38 x39 x40 x41 x42 x43 x44 x45 x46 x47 x48 x49 x50 x51 x52 x53 x54 x55 x56 x57 x58 x59 x60 x61 x62 x63 x64 x65 x66 x67 x68 x69 x70 x71 x72 x73 x74 x75 x76 x77 x78 x79 x80 x81 x82 x83 x84 x85 x86 x87 x88 x89 x90 x91 x92 x93 x94 x95 x96 x97 x98 x99 x100 x101 x102 x103 x104 x105 x106 x107 x108 x109 x110 x111 x112 x113 x114 x115 x116 x117 x118 x119 x120 x121 x122 x123 x124 x125 x126 x127 x128 x129 x130 x131 x132 x133 x134 x135 x136 x137 x138 x139 x140 x141 x142 x143 x144 x145 x146 x147 x148 x149 x150 x151 x152 x153 x154 x155 x156 x157 x158 x159 x160 x161 x162 x163 x164 x165 x166 x167 x168 x169 x170 x171 x172 x173 : Value)
    (hB : B = (findR 15 (Try.f12.body.getD .skip)).getD .skip) (d1 d2 d3 : Bool) (hlt : k < N) (c0 : w.cell? ⟨b0, o0 + k * 7, none⟩ = some (.int .i64 kd)) (hkd : 0 ≤ kd ∧ kd ≤ 4)
    (hK : ∀ (u96 u97 u98 u99 u100 u101 u102 u103 u104 u105 u106 u107 u108 u109 u110 u111 u112 u113 u114 u115 u116 u117 u118 u119 u120 u121 u122 u123 u124 u125 u126 u127 u128 u129 u130 u131 u132 u133 u134 u135 u136 u137 u138 u139 u140 u141 u142 u143 u144 : Value), K { tmps := List.toArray ((.slice (some ⟨b0, o0, none⟩) N c) :: x1 :: x2 :: x3 :: x4 :: x5 :: x6 :: x7 :: x8 :: x9 :: x10 :: x11 :: (.int .i64 k) :: x13 :: x14 :: x15 :: x16 :: x17 :: x18 :: (.bool d1) :: (.bool d2) :: (.bool d3) :: x22 :: x23 :: x24 :: x25 :: x26 :: x27 :: x28 :: x29 :: x30 :: x31 :: x32 :: x33 :: x34 :: x35 :: x36 :: x37 :: x38 :: x39 :: x40 :: x41 :: x42 :: x43 :: x44 :: x45 :: x46 :: x47 :: x48 :: x49 :: x50 :: x51 :: x52 :: x53 :: x54 :: x55 :: x56 :: x57 :: x58 :: x59 :: x60 :: x61 :: x62 :: x63 :: x64 :: x65 :: x66 :: x67 :: x68 :: x69 :: x70 :: x71 :: x72 :: x73 :: x74 :: x75 :: x76 :: x77 :: x78 :: x79 :: x80 :: x81 :: x82 :: x83 :: x84 :: x85 :: x86 :: x87 :: x88 :: x89 :: x90 :: x91 :: x92 :: x93 :: x94 :: x95 :: (u96) :: (u97) :: (u98) :: (u99) :: (u100) :: (u101) :: (u102) :: (u103) :: (u104) :: (u105) :: (u106) :: (u107) :: (u108) :: (u109) :: (u110) :: (u111) :: (u112) :: (u113) :: (u114) :: (u115) :: (u116) :: (u117) :: (u118) :: (u119) :: (u120) :: (u121) :: (u122) :: (u123) :: (u124) :: (u125) :: (u126) :: (u127) :: (u128) :: (u129) :: (u130) :: (u131) :: (u132) :: (u133) :: (u134) :: (u135) :: (u136) :: (u137) :: (u138) :: (u139) :: (u140) :: (u141) :: (u142) :: (u143) :: (u144) :: (.bool (!hkF kd d1 d2 d3)) :: x146 :: x147 :: x148 :: x149 :: x150 :: x151 :: x152 :: x153 :: x154 :: x155 :: x156 :: x157 :: x158 :: x159 :: x160 :: x161 :: x162 :: x163 :: x164 :: x165 :: x166 :: x167 :: x168 :: x169 :: x170 :: x171 :: x172 :: x173 :: []), defers := [] } w) :
    Code.wp Try.prog B (Exit.then K Q') { tmps := List.toArray ((.slice (some ⟨b0, o0, none⟩) N c) :: x1 :: x2 :: x3 :: x4 :: x5 :: x6 :: x7 :: x8 :: x9 :: x10 :: x11 :: (.int .i64 k) :: x13 :: x14 :: x15 :: x16 :: x17 :: x18 :: (.bool d1) :: (.bool d2) :: (.bool d3) :: x22 :: x23 :: x24 :: x25 :: x26 :: x27 :: x28 :: x29 :: x30 :: x31 :: x32 :: x33 :: x34 :: x35 :: x36 :: x37 :: x38 :: x39 :: x40 :: x41 :: x42 :: x43 :: x44 :: x45 :: x46 :: x47 :: x48 :: x49 :: x50 :: x51 :: x52 :: x53 :: x54 :: x55 :: x56 :: x57 :: x58 :: x59 :: x60 :: x61 :: x62 :: x63 :: x64 :: x65 :: x66 :: x67 :: x68 :: x69 :: x70 :: x71 :: x72 :: x73 :: x74 :: x75 :: x76 :: x77 :: x78 :: x79 :: x80 :: x81 :: x82 :: x83 :: x84 :: x85 :: x86 :: x87 :: x88 :: x89 :: x90 :: x91 :: x92 :: x93 :: x94 :: x95 :: x96 :: x97 :: x98 :: x99 :: x100 :: x101 :: x102 :: x103 :: x104 :: x105 :: x106 :: x107 :: x108 :: x109 :: x110 :: x111 :: x112 :: x113 :: x114 :: x115 :: x116 :: x117 :: x118 :: x119 :: x120 :: x121 :: x122 :: x123 :: x124 :: x125 :: x126 :: x127 :: x128 :: x129 :: x130 :: x131 :: x132 :: x133 :: x134 :: x135 :: x136 :: x137 :: x138 :: x139 :: x140 :: x141 :: x142 :: x143 :: x144 :: x145 :: x146 :: x147 :: x148 :: x149 :: x150 :: x151 :: x152 :: x153 :: x154 :: x155 :: x156 :: x157 :: x158 :: x159 :: x160 :: x161 :: x162 :: x163 :: x164 :: x165 :: x166 :: x167 :: x168 :: x169 :: x170 :: x171 :: x172 :: x173 :: []), defers := [] } w := by
  have HF := hide hK
  clear hK
  subst hB
  conv => arg 2; whnf
  have hcases : kd = 0 ∨ kd = 1 ∨ kd = 2 ∨ kd = 3 ∨ kd = 4 := by omega
  clear hkd
  rcases hcases with rfl | rfl | rfl | rfl | rfl
  · cases d1
    · go_wp2
      exact HF.out _ _ _ _ _ _ _ _ _ _ _ _ _ _ _ _ _ _ _ _ _ _ _ _ _ _ _ _ _ _ _ _ _ _ _ _ _ _ _ _ _ _ _ _ _ _ _ _ _
    · cases d2
      · go_wp2
        exact HF.out _ _ _ _ _ _ _ _ _ _ _ _ _ _ _ _ _ _ _ _ _ _ _ _ _ _ _ _ _ _ _ _ _ _ _ _ _ _ _ _ _ _ _ _ _ _ _ _ _
      · go_wp2
        exact HF.out _ _ _ _ _ _ _ _ _ _ _ _ _ _ _ _ _ _ _ _ _ _ _ _ _ _ _ _ _ _ _ _ _ _ _ _ _ _ _ _ _ _ _ _ _ _ _ _ _
  · cases d2
    · go_wp2
      exact HF.out _ _ _ _ _ _ _ _ _ _ _ _ _ _ _ _ _ _ _ _ _ _ _ _ _ _ _ _ _ _ _ _ _ _ _ _ _ _ _ _ _ _ _ _ _ _ _ _ _
    · go_wp2
      exact HF.out _ _ _ _ _ _ _ _ _ _ _ _ _ _ _ _ _ _ _ _ _ _ _ _ _ _ _ _ _ _ _ _ _ _ _ _ _ _ _ _ _ _ _ _ _ _ _ _ _
  · cases d1
    · go_wp2
      exact HF.out _ _ _ _ _ _ _ _ _ _ _ _ _ _ _ _ _ _ _ _ _ _ _ _ _ _ _ _ _ _ _ _ _ _ _ _ _ _ _ _ _ _ _ _ _ _ _ _ _
    · go_wp2
      exact HF.out _ _ _ _ _ _ _ _ _ _ _ _ _ _ _ _ _ _ _ _ _ _ _ _ _ _ _ _ _ _ _ _ _ _ _ _ _ _ _ _ _ _ _ _ _ _ _ _ _
  · cases d3
    · go_wp2
      exact HF.out _ _ _ _ _ _ _ _ _ _ _ _ _ _ _ _ _ _ _ _ _ _ _ _ _ _ _ _ _ _ _ _ _ _ _ _ _ _ _ _ _ _ _ _ _ _ _ _ _
    · go_wp2
      exact HF.out _ _ _ _ _ _ _ _ _ _ _ _ _ _ _ _ _ _ _ _ _ _ _ _ _ _ _ _ _ _ _ _ _ _ _ _ _ _ _ _ _ _ _ _ _ _ _ _ _
  · go_wp2
    exact HF.out _ _ _ _ _ _ _ _ _ _ _ _ _ _ _ _ _ _ _ _ _ _ _ _ _ _ _ _ _ _ _ _ _ _ _ _ _ _ _ _ _ _ _ _ _ _ _ _ _
end Go.Proofs.Yteehbpnbephojaa.Al
