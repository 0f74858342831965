/-
  The reference's Open: its drawn regions.
-/
import Derived.Deep.QuietTactic
import Derived.BigQuiet
import Derived.Test.YtcmjdepjckhpdaaDoorQKF
import Derived.Test.YtcmjdepjckhpdaaDoorQRegD
namespace Go.Proofs.YtcmjdepjckhpdaaDoor.So
open Go Go.RowKit Kt Kg Wr Lw Sha Dk Dg Kf

def findS (n : Nat) : Code → Option Code
  | .seq (.region m ops d) b => if m = n then some (.seq (.region m ops d) b) else findS n b
  | .seq a b => (findS n a).or (findS n b)
  | .block _ b => findS n b
  | .loop b => findS n b
  | .cond _ a b => (findS n a).or (findS n b)
  | _ => none

abbrev tR8 : TypeId := 38
theorem run_mid (w : World) (A : Option Addr) (n c i j : Nat) (hij : i ≤ j) (hj : j ≤ c) :
    (Instr.slice 38 (.slice A n c) (some (.int .i64 (i : Int))) (some (.int .i64 (j : Int))) none).run Tryd.prog w = .ok (.slice (if c = i then A else A.map (·.add i)) (j - i) (c - i)) w := by
  have hu := run_underlying Tryd.underlying38
  cases A with
  | none => go_simp
  | some ad => go_simp
set_option maxRecDepth 100000 in
set_option maxHeartbeats 4000000 in
theorem op18 {gd gs g a n N c c8 t : Nat} {A A8 : Option Addr} {w : World} {B : Code} {K : Act → World → Prop} {Q' : Exit → Act → World → Prop} (x1 x2 x3 x8 x9 x10 x11 x12 x13 x14 x15 x16 x17 x18 x19 x20 x21 x22 x23 x24 x25 x26 x27 x28 x29 x30 x31 x32 x33 x34 x35 x36 x37 x38 x39 x40 x41 x42 x43 x44 x45 x46 x47 x48 x49 x50 x51 x52 x53 x54 x55 x56 x57 x58 x59 x60 x61 x62 x63 x64 x65 x66 x67 x68 x69 x70 x71 x72 x73 x74 x75 x76 x77 x78 x79 x80 x81 x82 x83 x84 x85 x86 x87 x88 x89 x90 x91 x92 x93 x94 x95 x96 x97 x98 x99 x100 x101 x102 x103 x104 x105 x106 x107 x108 x109 x110 x111 x112 x113 x114 x115 x116 x117 x118 x119 x120 x121 x122 x123 x124 x125 x126 x127 x128 x129 x130 x131 x132 x133 x134 x135 x136 x137 x138 x139 x140 x141 x142 x143 x144 x145 x146 x147 x148 x149 x150 x151 x152 x153 x154 x155 x156 x157 x158 x159 x160 x161 x162 x163 x164 x165 x166 : Value)
    (hB : B = (findR 18 (Tryd.f13.body.getD .skip)).getD .skip) (c0 : w.cell? ⟨gd, 0, none⟩ = some (.slice A N c)) (c1 : w.cell? ⟨g, 1, none⟩ = some (.int .i64 (t : Int))) (hN : a + t + n + 4 ≤ N) (hc : N ≤ c) (hl : N ≤ 100000) (hA : A8 = if c = a + t then A else A.map (·.add (a + t))) (h8 : c8 = c - (a + t))
    (hK : ∀ (u81 u82 u83 u84 u85 u86 u87 u88 u89 u90 u91 u92 u93 u94 u95 u96 u97 u98 u99 u100 : Value) (w' : World), (∃ m, w' = w.drewN m) → K { tmps := List.toArray ((.pointer (some ⟨gd, 0, none⟩)) :: x1 :: x2 :: x3 :: (.pointer (some ⟨gs, 0, none⟩)) :: (.int .i64 (a : Int)) :: (.pointer (some ⟨g, 0, none⟩)) :: (.int .u64 (n : Int)) :: (.slice A8 n c8) :: x9 :: x10 :: x11 :: x12 :: x13 :: x14 :: x15 :: x16 :: x17 :: x18 :: x19 :: x20 :: x21 :: x22 :: x23 :: x24 :: x25 :: x26 :: x27 :: x28 :: x29 :: x30 :: x31 :: x32 :: x33 :: x34 :: x35 :: x36 :: x37 :: x38 :: x39 :: x40 :: x41 :: x42 :: x43 :: x44 :: x45 :: x46 :: x47 :: x48 :: x49 :: x50 :: x51 :: x52 :: x53 :: x54 :: x55 :: x56 :: x57 :: x58 :: x59 :: x60 :: x61 :: x62 :: x63 :: x64 :: x65 :: x66 :: x67 :: x68 :: x69 :: x70 :: x71 :: x72 :: x73 :: x74 :: x75 :: x76 :: x77 :: x78 :: x79 :: x80 :: (u81) :: (u82) :: (u83) :: (u84) :: (u85) :: (u86) :: (u87) :: (u88) :: (u89) :: (u90) :: (u91) :: (u92) :: (u93) :: (u94) :: (u95) :: (u96) :: (u97) :: (u98) :: (u99) :: (u100) :: x101 :: x102 :: x103 :: x104 :: x105 :: x106 :: x107 :: x108 :: x109 :: x110 :: x111 :: x112 :: x113 :: x114 :: x115 :: x116 :: x117 :: x118 :: x119 :: x120 :: x121 :: x122 :: x123 :: x124 :: x125 :: x126 :: x127 :: x128 :: x129 :: x130 :: x131 :: x132 :: x133 :: x134 :: x135 :: x136 :: x137 :: x138 :: x139 :: x140 :: x141 :: x142 :: x143 :: x144 :: x145 :: x146 :: x147 :: x148 :: x149 :: x150 :: x151 :: x152 :: x153 :: x154 :: x155 :: x156 :: x157 :: x158 :: x159 :: x160 :: x161 :: x162 :: x163 :: x164 :: x165 :: x166 :: []), defers := [] } w') :
    Code.wp Tryd.prog B (Exit.then K Q') { tmps := List.toArray ((.pointer (some ⟨gd, 0, none⟩)) :: x1 :: x2 :: x3 :: (.pointer (some ⟨gs, 0, none⟩)) :: (.int .i64 (a : Int)) :: (.pointer (some ⟨g, 0, none⟩)) :: (.int .u64 (n : Int)) :: x8 :: x9 :: x10 :: x11 :: x12 :: x13 :: x14 :: x15 :: x16 :: x17 :: x18 :: x19 :: x20 :: x21 :: x22 :: x23 :: x24 :: x25 :: x26 :: x27 :: x28 :: x29 :: x30 :: x31 :: x32 :: x33 :: x34 :: x35 :: x36 :: x37 :: x38 :: x39 :: x40 :: x41 :: x42 :: x43 :: x44 :: x45 :: x46 :: x47 :: x48 :: x49 :: x50 :: x51 :: x52 :: x53 :: x54 :: x55 :: x56 :: x57 :: x58 :: x59 :: x60 :: x61 :: x62 :: x63 :: x64 :: x65 :: x66 :: x67 :: x68 :: x69 :: x70 :: x71 :: x72 :: x73 :: x74 :: x75 :: x76 :: x77 :: x78 :: x79 :: x80 :: x81 :: x82 :: x83 :: x84 :: x85 :: x86 :: x87 :: x88 :: x89 :: x90 :: x91 :: x92 :: x93 :: x94 :: x95 :: x96 :: x97 :: x98 :: x99 :: x100 :: x101 :: x102 :: x103 :: x104 :: x105 :: x106 :: x107 :: x108 :: x109 :: x110 :: x111 :: x112 :: x113 :: x114 :: x115 :: x116 :: x117 :: x118 :: x119 :: x120 :: x121 :: x122 :: x123 :: x124 :: x125 :: x126 :: x127 :: x128 :: x129 :: x130 :: x131 :: x132 :: x133 :: x134 :: x135 :: x136 :: x137 :: x138 :: x139 :: x140 :: x141 :: x142 :: x143 :: x144 :: x145 :: x146 :: x147 :: x148 :: x149 :: x150 :: x151 :: x152 :: x153 :: x154 :: x155 :: x156 :: x157 :: x158 :: x159 :: x160 :: x161 :: x162 :: x163 :: x164 :: x165 :: x166 :: []), defers := [] } w := by
  have HF := hide hK
  clear hK
  subst hB
  conv => arg 2; whnf
  have d1 : IntKind.i64.wrap ((a : Int) + (t : Int)) = ((a + t : Nat) : Int) := by rw [IntWalk.i64_in _ (by omega)]; omega
  have d2 : IntKind.i64.wrap (n : Int) = (n : Int) := IntWalk.i64_in _ (by omega)
  have d3 : IntKind.i64.wrap (((a + t : Nat) : Int) + (n : Int)) = ((a + t + n : Nat) : Int) := by rw [IntWalk.i64_in _ (by omega)]; omega
  have hr := fun wz => run_mid wz A N c (a + t) (a + t + n) (by omega) (by omega)
  have hs : a + t + n - (a + t) = n := by omega
  rw [hs, ← hA, ← h8] at hr
  clear hA h8
  generalize a + t + n = q at *
  generalize a + t = s at *
  clear hs hN hc hl
  go_wp2
  go_quiet (fail)
  go_wp2
  exact HF.out _ _ _ _ _ _ _ _ _ _ _ _ _ _ _ _ _ _ _ _ _ ⟨_, rfl⟩
set_option maxRecDepth 100000 in
set_option maxHeartbeats 4000000 in
theorem op20 {gd gs g a n N c c8 t : Nat} {A A8 : Option Addr} {I X : Bs} {bb : Bool} {w : World} {B : Code} {K : Act → World → Prop} {Q' : Exit → Act → World → Prop} (x1 x2 x3 x8 x10 x11 x12 x13 x14 x15 x16 x17 x18 x19 x20 x21 x22 x23 x24 x25 x26 x27 x28 x29 x30 x31 x32 x33 x34 x35 x36 x37 x38 x39 x40 x41 x42 x43 x44 x45 x46 x47 x48 x49 x50 x51 x52 x53 x54 x55 x56 x57 x58 x59 x60 x61 x62 x63 x64 x65 x66 x67 x68 x69 x70 x71 x72 x73 x74 x75 x76 x77 x78 x79 x80 x81 x82 x83 x84 x85 x86 x87 x88 x89 x90 x91 x92 x93 x94 x95 x96 x97 x98 x99 x100 x101 x102 x103 x104 x105 x106 x107 x108 x109 x110 x111 x112 x113 x114 x115 x116 x117 x118 x119 x120 x121 x122 x123 x124 x125 x126 x127 x128 x129 x130 x131 x132 x133 x134 x135 x136 x137 x138 x139 x140 x141 x142 x143 x144 x145 x146 x147 x148 x149 x150 x151 x152 x153 x154 x155 x156 x157 x158 x159 x160 x161 x162 x163 x164 x165 x166 : Value)
    (hB : B = (findR 20 (Tryd.f13.body.getD .skip)).getD .skip) (c0 : w.cell? ⟨gd, 0, none⟩ = some (.slice A N c)) (c1 : w.cell? ⟨g, 1, none⟩ = some (.int .i64 (t : Int))) (hN : a + t + n + 4 ≤ N) (hc : N ≤ c) (hl : N ≤ 100000) (hI : 4 ≤ I.length) (hbb : bb = decide (I.take 4 = X)) (hA : A8 = if c = a + t + n then A else A.map (·.add (a + t + n))) (h8 : c8 = c - (a + t + n)) (hX : ∀ m, (convert 38 9 (.slice A8 4 c8)).run Tryd.prog (w.drewN m) = .ok (.string ⟨X.toArray⟩) (w.drewN m))
    (hK : ∀ (u103 u104 u105 u106 u107 u108 u109 u110 u111 u112 u113 u114 u115 u116 u117 u118 u119 u120 u121 u122 u123 u124 u125 u126 u127 u128 u129 : Value) (w' : World), (∃ m, w' = w.drewN m) → K { tmps := List.toArray ((.pointer (some ⟨gd, 0, none⟩)) :: x1 :: x2 :: x3 :: (.pointer (some ⟨gs, 0, none⟩)) :: (.int .i64 (a : Int)) :: (.pointer (some ⟨g, 0, none⟩)) :: (.int .u64 (n : Int)) :: x8 :: (.string ⟨I.toArray⟩) :: x10 :: x11 :: x12 :: x13 :: x14 :: x15 :: x16 :: x17 :: x18 :: x19 :: x20 :: x21 :: x22 :: x23 :: x24 :: x25 :: x26 :: x27 :: x28 :: x29 :: x30 :: x31 :: x32 :: x33 :: x34 :: x35 :: x36 :: x37 :: x38 :: x39 :: x40 :: x41 :: x42 :: x43 :: x44 :: x45 :: x46 :: x47 :: x48 :: x49 :: x50 :: x51 :: x52 :: x53 :: x54 :: x55 :: x56 :: x57 :: x58 :: x59 :: x60 :: x61 :: x62 :: x63 :: x64 :: x65 :: x66 :: x67 :: x68 :: x69 :: x70 :: x71 :: x72 :: x73 :: x74 :: x75 :: x76 :: x77 :: x78 :: x79 :: x80 :: x81 :: x82 :: x83 :: x84 :: x85 :: x86 :: x87 :: x88 :: x89 :: x90 :: x91 :: x92 :: x93 :: x94 :: x95 :: x96 :: x97 :: x98 :: x99 :: x100 :: x101 :: x102 :: (u103) :: (u104) :: (u105) :: (u106) :: (u107) :: (u108) :: (u109) :: (u110) :: (u111) :: (u112) :: (u113) :: (u114) :: (u115) :: (u116) :: (u117) :: (u118) :: (u119) :: (u120) :: (u121) :: (u122) :: (u123) :: (u124) :: (u125) :: (u126) :: (u127) :: (u128) :: (u129) :: (.bool (!bb)) :: x131 :: x132 :: x133 :: x134 :: x135 :: x136 :: x137 :: x138 :: x139 :: x140 :: x141 :: x142 :: x143 :: x144 :: x145 :: x146 :: x147 :: x148 :: x149 :: x150 :: x151 :: x152 :: x153 :: x154 :: x155 :: x156 :: x157 :: x158 :: x159 :: x160 :: x161 :: x162 :: x163 :: x164 :: x165 :: x166 :: []), defers := [] } w') :
    Code.wp Tryd.prog B (Exit.then K Q') { tmps := List.toArray ((.pointer (some ⟨gd, 0, none⟩)) :: x1 :: x2 :: x3 :: (.pointer (some ⟨gs, 0, none⟩)) :: (.int .i64 (a : Int)) :: (.pointer (some ⟨g, 0, none⟩)) :: (.int .u64 (n : Int)) :: x8 :: (.string ⟨I.toArray⟩) :: x10 :: x11 :: x12 :: x13 :: x14 :: x15 :: x16 :: x17 :: x18 :: x19 :: x20 :: x21 :: x22 :: x23 :: x24 :: x25 :: x26 :: x27 :: x28 :: x29 :: x30 :: x31 :: x32 :: x33 :: x34 :: x35 :: x36 :: x37 :: x38 :: x39 :: x40 :: x41 :: x42 :: x43 :: x44 :: x45 :: x46 :: x47 :: x48 :: x49 :: x50 :: x51 :: x52 :: x53 :: x54 :: x55 :: x56 :: x57 :: x58 :: x59 :: x60 :: x61 :: x62 :: x63 :: x64 :: x65 :: x66 :: x67 :: x68 :: x69 :: x70 :: x71 :: x72 :: x73 :: x74 :: x75 :: x76 :: x77 :: x78 :: x79 :: x80 :: x81 :: x82 :: x83 :: x84 :: x85 :: x86 :: x87 :: x88 :: x89 :: x90 :: x91 :: x92 :: x93 :: x94 :: x95 :: x96 :: x97 :: x98 :: x99 :: x100 :: x101 :: x102 :: x103 :: x104 :: x105 :: x106 :: x107 :: x108 :: x109 :: x110 :: x111 :: x112 :: x113 :: x114 :: x115 :: x116 :: x117 :: x118 :: x119 :: x120 :: x121 :: x122 :: x123 :: x124 :: x125 :: x126 :: x127 :: x128 :: x129 :: x130 :: x131 :: x132 :: x133 :: x134 :: x135 :: x136 :: x137 :: x138 :: x139 :: x140 :: x141 :: x142 :: x143 :: x144 :: x145 :: x146 :: x147 :: x148 :: x149 :: x150 :: x151 :: x152 :: x153 :: x154 :: x155 :: x156 :: x157 :: x158 :: x159 :: x160 :: x161 :: x162 :: x163 :: x164 :: x165 :: x166 :: []), defers := [] } w := by
  have HF := hide hK
  clear hK
  subst hB
  conv => arg 2; whnf
  have d1 : IntKind.i64.wrap ((a : Int) + (t : Int)) = ((a + t : Nat) : Int) := by rw [IntWalk.i64_in _ (by omega)]; omega
  have d2 : IntKind.i64.wrap (n : Int) = (n : Int) := IntWalk.i64_in _ (by omega)
  have d3 : IntKind.i64.wrap (((a + t : Nat) : Int) + (n : Int)) = ((a + t + n : Nat) : Int) := by rw [IntWalk.i64_in _ (by omega)]; omega
  have d4 : IntKind.i64.wrap (((a + t + n : Nat) : Int) + 4) = ((a + t + n + 4 : Nat) : Int) := by rw [IntWalk.i64_in _ (by omega)]; omega
  have hr := fun wz => run_mid wz A N c (a + t + n) (a + t + n + 4) (by omega) (by omega)
  have hs : a + t + n + 4 - (a + t + n) = 4 := by omega
  rw [hs, ← hA, ← h8] at hr
  have hsz : (ByteArray.mk I.toArray).size = I.length := rfl
  have hq1 : (I.take 4 == X) = bb := by rw [hbb, Bool.eq_iff_iff, beq_iff_eq, decide_eq_true_iff]
  have hq2 : (I.take 4 != X) = !bb := by rw [← hq1]; rfl
  have hfr := front_txt I 4
  clear hA h8 hbb
  generalize a + t + n + 4 = z at *
  generalize a + t + n = q at *
  generalize a + t = s at *
  clear hs hN hc hl
  go_wp2
  go_quiet (fail)
  go_wp2
  exact HF.out _ _ _ _ _ _ _ _ _ _ _ _ _ _ _ _ _ _ _ _ _ _ _ _ _ _ _ _ ⟨_, rfl⟩
set_option maxRecDepth 100000 in
set_option maxHeartbeats 4000000 in
theorem grow {gd gs g a n c8 t : Nat} {A8 : Option Addr} {I b : Bs} {L : List Bs} {S P : Nat → Prop} {w : World} {B : Code} {K : Act → World → Prop} {Q' : Exit → Act → World → Prop} (x1 x2 x3 x10 x11 x12 x13 x14 x15 x16 x17 x18 x19 x20 x21 x22 x23 x24 x25 x26 x27 x28 x29 x30 x31 x32 x33 x34 x35 x36 x37 x38 x39 x40 x41 x42 x43 x44 x45 x46 x47 x48 x49 x50 x51 x52 x53 x54 x55 x56 x57 x58 x59 x60 x61 x62 x63 x64 x65 x66 x67 x68 x69 x70 x71 x72 x73 x74 x75 x76 x77 x78 x79 x80 x81 x82 x83 x84 x85 x86 x87 x88 x89 x90 x91 x92 x93 x94 x95 x96 x97 x98 x99 x100 x101 x102 x103 x104 x105 x106 x107 x108 x109 x110 x111 x112 x113 x114 x115 x116 x117 x118 x119 x120 x121 x122 x123 x124 x125 x126 x127 x128 x129 x130 x131 x132 x133 x134 x135 x136 x137 x138 x139 x140 x141 x142 x143 x144 x145 x146 x147 x148 x149 x150 x151 x152 x153 x154 x155 x156 x157 x158 x159 x160 x161 x162 x163 x164 x165 x166 : Value)
    (hB : B = (findS 25 (Tryd.f13.body.getD .skip)).getD .skip) (H : Hid (RsIn w S gs gd L)) (Hs : Hid (Sl w P A8 c8 b)) (HP : Hid (∀ k, P k → ¬ S k)) (HN : Hid (n = b.length)) (HId : Hid (I = sha b)) (Hlen : Hid (L.length ≤ 1000000)) (c1 : w.cell? ⟨g, 1, none⟩ = some (.int .i64 (t : Int))) (Hg : Hid (¬ S g ∧ g < w.heap.size)) (hN : a + t + n + 4 ≤ 100000)
    (hK : ∀ (u135 u136 u137 u138 u139 u140 u141 u142 u143 u144 u145 u146 u147 u148 u149 u150 u151 u152 u153 u154 u155 u156 u157 u158 u159 u160 u161 u162 u163 u164 u165 : Value) (w' : World), (∃ S', RsIn w' S' gs gd (L ++ [b]) ∧ Oth S w w' ∧ ∀ k, S' k → S k ∨ w.heap.size ≤ k) → K { tmps := List.toArray ((.pointer (some ⟨gd, 0, none⟩)) :: x1 :: x2 :: x3 :: (.pointer (some ⟨gs, 0, none⟩)) :: (.int .i64 ((a + t + n + 4 : Nat) : Int)) :: (.pointer (some ⟨g, 0, none⟩)) :: (.int .u64 (n : Int)) :: (.slice A8 n c8) :: (.string ⟨I.toArray⟩) :: x10 :: x11 :: x12 :: x13 :: x14 :: x15 :: x16 :: x17 :: x18 :: x19 :: x20 :: x21 :: x22 :: x23 :: x24 :: x25 :: x26 :: x27 :: x28 :: x29 :: x30 :: x31 :: x32 :: x33 :: x34 :: x35 :: x36 :: x37 :: x38 :: x39 :: x40 :: x41 :: x42 :: x43 :: x44 :: x45 :: x46 :: x47 :: x48 :: x49 :: x50 :: x51 :: x52 :: x53 :: x54 :: x55 :: x56 :: x57 :: x58 :: x59 :: x60 :: x61 :: x62 :: x63 :: x64 :: x65 :: x66 :: x67 :: x68 :: x69 :: x70 :: x71 :: x72 :: x73 :: x74 :: x75 :: x76 :: x77 :: x78 :: x79 :: x80 :: x81 :: x82 :: x83 :: x84 :: x85 :: x86 :: x87 :: x88 :: x89 :: x90 :: x91 :: x92 :: x93 :: x94 :: x95 :: x96 :: x97 :: x98 :: x99 :: x100 :: x101 :: x102 :: x103 :: x104 :: x105 :: x106 :: x107 :: x108 :: x109 :: x110 :: x111 :: x112 :: x113 :: x114 :: x115 :: x116 :: x117 :: x118 :: x119 :: x120 :: x121 :: x122 :: x123 :: x124 :: x125 :: x126 :: x127 :: x128 :: x129 :: x130 :: x131 :: x132 :: x133 :: x134 :: (u135) :: (u136) :: (u137) :: (u138) :: (u139) :: (u140) :: (u141) :: (u142) :: (u143) :: (u144) :: (u145) :: (u146) :: (u147) :: (u148) :: (u149) :: (u150) :: (u151) :: (u152) :: (u153) :: (u154) :: (u155) :: (u156) :: (u157) :: (u158) :: (u159) :: (u160) :: (u161) :: (u162) :: (u163) :: (u164) :: (u165) :: x166 :: []), defers := [] } w') :
    Code.wp Tryd.prog B (Exit.then K Q') { tmps := List.toArray ((.pointer (some ⟨gd, 0, none⟩)) :: x1 :: x2 :: x3 :: (.pointer (some ⟨gs, 0, none⟩)) :: (.int .i64 (a : Int)) :: (.pointer (some ⟨g, 0, none⟩)) :: (.int .u64 (n : Int)) :: (.slice A8 n c8) :: (.string ⟨I.toArray⟩) :: x10 :: x11 :: x12 :: x13 :: x14 :: x15 :: x16 :: x17 :: x18 :: x19 :: x20 :: x21 :: x22 :: x23 :: x24 :: x25 :: x26 :: x27 :: x28 :: x29 :: x30 :: x31 :: x32 :: x33 :: x34 :: x35 :: x36 :: x37 :: x38 :: x39 :: x40 :: x41 :: x42 :: x43 :: x44 :: x45 :: x46 :: x47 :: x48 :: x49 :: x50 :: x51 :: x52 :: x53 :: x54 :: x55 :: x56 :: x57 :: x58 :: x59 :: x60 :: x61 :: x62 :: x63 :: x64 :: x65 :: x66 :: x67 :: x68 :: x69 :: x70 :: x71 :: x72 :: x73 :: x74 :: x75 :: x76 :: x77 :: x78 :: x79 :: x80 :: x81 :: x82 :: x83 :: x84 :: x85 :: x86 :: x87 :: x88 :: x89 :: x90 :: x91 :: x92 :: x93 :: x94 :: x95 :: x96 :: x97 :: x98 :: x99 :: x100 :: x101 :: x102 :: x103 :: x104 :: x105 :: x106 :: x107 :: x108 :: x109 :: x110 :: x111 :: x112 :: x113 :: x114 :: x115 :: x116 :: x117 :: x118 :: x119 :: x120 :: x121 :: x122 :: x123 :: x124 :: x125 :: x126 :: x127 :: x128 :: x129 :: x130 :: x131 :: x132 :: x133 :: x134 :: x135 :: x136 :: x137 :: x138 :: x139 :: x140 :: x141 :: x142 :: x143 :: x144 :: x145 :: x146 :: x147 :: x148 :: x149 :: x150 :: x151 :: x152 :: x153 :: x154 :: x155 :: x156 :: x157 :: x158 :: x159 :: x160 :: x161 :: x162 :: x163 :: x164 :: x165 :: x166 :: []), defers := [] } w := by
  have HF := hide hK
  clear hK
  subst hB
  conv => arg 2; whnf
  have d1 : IntKind.i64.wrap ((a : Int) + (t : Int)) = ((a + t : Nat) : Int) := by rw [IntWalk.i64_in _ (by omega)]; omega
  have d2 : IntKind.i64.wrap (n : Int) = (n : Int) := IntWalk.i64_in _ (by omega)
  have d3 : IntKind.i64.wrap (((a + t : Nat) : Int) + (n : Int)) = ((a + t + n : Nat) : Int) := by rw [IntWalk.i64_in _ (by omega)]; omega
  have d4 : IntKind.i64.wrap (((a + t + n : Nat) : Int) + 4) = ((a + t + n + 4 : Nat) : Int) := by rw [IntWalk.i64_in _ (by omega)]; omega
  obtain ⟨id, hid⟩ : ∃ id, id = I := ⟨_, rfl⟩
  rw [← hid] at HId ⊢
  rw [← hid] at HF
  clear hid
  generalize a + t + n + 4 = z at *
  generalize a + t + n = q at *
  generalize a + t = s at *
  clear hN
  obtain ⟨vi, va, hr, hi, ha, hgs, hbd⟩ := H.out
  obtain ⟨Ai, ci, rfl, _⟩ := hi.vs
  obtain ⟨Aa, ca, rfl, _⟩ := ha.vs
  rw [List.length_map] at hr hi
  obtain ⟨NL, hNL⟩ : ∃ NL, NL = L.length := ⟨_, rfl⟩
  rw [← hNL] at hr hi ha
  have k1 := hr.cell 1
  have f1 := hr.free 1
  simp only [List.getElem?_cons_zero, List.getElem?_cons_succ] at k1
  have k1a : ∀ o, (w.alloc o).cell? ⟨gs, 1, none⟩ = some (.slice Ai NL ci) := fun o => (hr.alloc o).cell 1
  have HRw := hide hr
  have Hi := hide hi
  have Ha := hide ha
  have Hgs := hide hgs
  have Hbd := hide hbd
  have HC1 := hide c1
  clear hr hi ha hgs hbd hNL H c1
  obtain ⟨ids, hids⟩ : ∃ ids, ids = L.map sha := ⟨_, rfl⟩
  have HIds := hide hids
  rw [← hids] at Hi
  have Hil := hide (show ids.length + 1 ≤ 1000000000 by have := Hlen.out; rw [hids, List.length_map]; omega)
  have Hall := hide (show L.length + 1 ≤ 1000000000 by have := Hlen.out; omega)
  clear hids
  go_wp2_with (at_builtin; go_loud (refine wpList_pushT2 rfl (.tmp 139) (.tmp 141) tIds rfl Tryd.underlying50 infoId (fun b => S b ∧ b ≠ gs) (.slice Ai NL ci) ids id _ rfl rfl rfl Hi.out Hil.out ?_; intro g5 cap5 w5 hown5 hg5; have HG5 := hide (rs_grown (j := 1) HRw.out Hi.out Ha.out (by decide) Hgs.out Hbd.out hg5 hown5); have k15 := HG5.out.1.cell 1; have f15 := HG5.out.1.free 1; simp only [List.getElem?_cons_zero, List.getElem?_cons_succ] at k15; have HGr := hide hg5.size; clear hown5 hg5 k1 k1a f1))
  obtain ⟨w6, hw6⟩ : ∃ z, z = w5.setCell ⟨gs, 1, none⟩ (.slice (some ⟨g5, 0, none⟩) (ids.length + 1) cap5) := ⟨_, rfl⟩
  obtain ⟨v5, hv5⟩ : ∃ z, z = Value.slice (some ⟨g5, 0, none⟩) (ids.length + 1) cap5 := ⟨_, rfl⟩
  have hsz6 : w6.heap.size = w5.heap.size := by rw [hw6]; simp [World.setCell]
  have hg5 := HG5.out
  rw [← hw6] at hg5 ⊢
  obtain ⟨_, q1, q2, q3, q4, q5, q6⟩ := hg5
  simp only [List.set_cons_zero, List.set_cons_succ] at q1
  have HR6 := hide q1
  have HI6 := hide q2
  have HA6 := hide q3
  have HS6 := hide q4
  have HL6 := hide q5
  have HO6 := hide q6
  have Hsz6 := hide hsz6
  have Hs6 := hide (Hs.out.bound.move (w' := w6) fun k hk _ => q6.block k hk.2 (HP.out k hk.1))
  have hcv1 := sl_text (show Sl w6.drew _ A8 c8 b from Hs6.out) HN.out
  have k26 : w6.cell? ⟨gs, 2, none⟩ = some (.slice Aa NL ca) := q1.cell 2
  have f26 := q1.free 2
  clear q1 q2 q3 q4 q5 q6 hsz6 HG5 k15 f15 hw6
  rw [← hv5] at HR6 HI6
  refine Rg.wp_region_ord (fun w' => w'.cell? ⟨gs, 2, none⟩ = some (.slice Aa NL ca) ∧ True) [(0, true), (1, true), (2, true), (3, true), (4, true), (5, true), (6, false), (7, false), (8, false), (9, true), (10, true), (11, false)] (by kernel_rfl) (by kernel_rfl) ?_
  simp only [Rg.pick, List.map_cons, List.map_nil, List.getD_cons_zero, List.getD_cons_succ]
  iterate 6 (refine Rg.ord_quiet (v := ?_) rfl (fun w' hS => ?_) ⟨k26, trivial⟩ ?_; rotate_left; (obtain ⟨s1, _⟩ := hS; go_simp; with_reducible rfl); simp only [Act.put, List.setIfInBounds_toArray, List.set_cons_succ, List.set_cons_zero])
  refine Rg.ord_loud rfl (fun K hK => ?_)
  go_simp
  refine hK _ _ (fun _ => ⟨k26, trivial⟩) ?_
  clear hK K hcv1
  refine Rg.ord_loud rfl (fun K hK => ?_)
  go_simp
  have k27 : (w6.drew.alloc (.cells #[.string ⟨b.toArray⟩] tS)).cell? ⟨gs, 2, none⟩ = some (.slice Aa NL ca) := ((show Row w6.drew gs tSt _ from HR6.out).alloc _).cell 2
  refine hK _ _ (fun _ => ⟨k27, trivial⟩) ?_
  clear hK K
  refine Rg.ord_loud rfl (fun K hK => ?_)
  refine wp_pushT2 (.tmp 149) (.tmp 152) tSs rfl Tryd.underlying22 infoS (fun k => mor S w w5 k ∧ k ≠ gs) (.slice Aa NL ca) L b _ rfl rfl rfl (show OTS w6.drew _ tS (.slice Aa NL ca) L from HA6.out) Hall.out ?_
  intro g7 cap7 w7 hown7 hg7
  have hg8 := rs_grown (j := 2) (show Row w6.drew gs tSt _ from HR6.out) (show OTS w6.drew (fun k => mor S w w5 k ∧ k ≠ gs) tS (.slice Aa NL ca) L from HA6.out) (show OTS w6.drew (fun k => mor S w w5 k ∧ k ≠ gs) tId v5 (ids ++ [id]) from HI6.out) (by decide) HS6.out HL6.out hg7 hown7
  have k28 : w7.cell? ⟨gs, 2, none⟩ = some (.slice Aa NL ca) := hg8.1.cell 2
  have f28 := hg8.1.free 2
  have HG8 := hide hg8
  clear hown7 hg7 hg8 k26 k27 f26
  refine hK _ _ (fun _ => ⟨k28, trivial⟩) ?_
  clear hK K
  iterate 2 (refine Rg.ord_quiet (v := ?_) rfl (fun w' hS => ?_) ⟨k28, trivial⟩ ?_; rotate_left; (obtain ⟨s1, _⟩ := hS; go_simp; with_reducible rfl); simp only [Act.put, List.setIfInBounds_toArray, List.set_cons_succ, List.set_cons_zero])
  refine Rg.ord_loud rfl (fun K hK => ?_)
  go_simp
  obtain ⟨v7, hv7⟩ : ∃ z, z = Value.slice (some ⟨g7, 0, none⟩) (L.length + 1) cap7 := ⟨_, rfl⟩
  obtain ⟨w9, hw9⟩ : ∃ z, z = w7.setCell ⟨gs, 2, none⟩ (.slice (some ⟨g7, 0, none⟩) (L.length + 1) cap7) := ⟨_, rfl⟩
  have hg8 := HG8.out
  rw [← hv7] at hg8 hw9
  rw [← hw9] at hg8
  have hw9' : (w7.setCell ⟨gs, 2, none⟩ (.slice (some ⟨g7, 0, none⟩) (L.length + 1) cap7)) = w9 := by rw [hw9, hv7]
  obtain ⟨_, q1, q2, q3, q4, q5, q6⟩ := hg8
  have q7 : Oth (mor S w w5) w6 w9 := ⟨q6.os, q6.tape, q6.output, q6.size, q6.block⟩
  simp only [List.set_cons_zero, List.set_cons_succ] at q1
  have HE := hide (show (∃ S', RsIn w9 S' gs gd (L ++ [b]) ∧ Oth S w w9 ∧ ∀ k, S' k → S k ∨ w.heap.size ≤ k) ∧ w9.cell? ⟨g, 1, none⟩ = some (.int .i64 (t : Int)) from by
    have h4 : ∀ k, mor (mor S w w5) w6.drew w7 k → S k ∨ w.heap.size ≤ k := fun k hk => hk.1.elim (fun x => x.1) fun x => .inr (by
      have h1 : w6.heap.size ≤ k := x
      have h2 := Hsz6.out
      have h3 := HGr.out
      omega)
    have ho : Oth S w w9 := (HO6.out.mono (T := S) fun k _ h => h).trans q7 fun i hi h => h.1.elim (fun x => x) fun x => by omega
    refine ⟨⟨_, ⟨v5, v7, q1, ?_, q2, q4, q5⟩, ho, h4⟩, (World.cell?_of_block (a := ⟨g, 1, none⟩) (ho.block g Hg.out.2 Hg.out.1)).trans HC1.out⟩
    rw [List.map_append, ← HIds.out, List.map_cons, List.map_nil, ← HId.out]
    exact q3)
  clear q1 q2 q3 q4 q5 q6 q7 HG8 hv7 hw9 k28 f28
  rw [hw9']
  refine hK _ _ (fun hf => absurd (show Rg.sink _ 11 = true from by kernel_rfl) (by rw [hf]; decide)) ?_
  clear hK K
  refine Rg.ord_nil ?_
  have e1 := HE.out.2
  go_wp2
  exact HF.out _ _ _ _ _ _ _ _ _ _ _ _ _ _ _ _ _ _ _ _ _ _ _ _ _ _ _ _ _ _ _ _ HE.out.1
end Go.Proofs.YtcmjdepjckhpdaaDoor.So
namespace Go.Proofs.YtcmjdepjckhpdaaDoor.So
open Go Go.RowKit Kt Kg Wr Lw Sha Dk Dg Kf

set_option maxRecDepth 100000 in
set_option maxHeartbeats 4000000 in
theorem cut9 {gd a : Nat} {r : Rt} {Sd : Nat → Prop} {w : World} {B : Code} {K : Act → World → Prop} {Q' : Exit → Act → World → Prop} (x1 x2 x3 x4 x6 x7 x8 x9 x10 x11 x12 x13 x14 x15 x16 x17 x18 x19 x20 x21 x22 x23 x24 x25 x26 x27 x28 x29 x30 x31 x32 x33 x34 x35 x36 x37 x38 x39 x40 x41 x42 x43 x44 x45 x46 x47 x48 x49 x50 x51 x52 x53 x54 x55 x56 x57 x58 x59 x60 x61 x62 x63 x64 x65 x66 x67 x68 x69 x70 x71 x72 x73 x74 x75 x76 x77 x78 x79 x80 x81 x82 x83 x84 x85 x86 x87 x88 x89 x90 x91 x92 x93 x94 x95 x96 x97 x98 x99 x100 x101 x102 x103 x104 x105 x106 x107 x108 x109 x110 x111 x112 x113 x114 x115 x116 x117 x118 x119 x120 x121 x122 x123 x124 x125 x126 x127 x128 x129 x130 x131 x132 x133 x134 x135 x136 x137 x138 x139 x140 x141 x142 x143 x144 x145 x146 x147 x148 x149 x150 x151 x152 x153 x154 x155 x156 x157 x158 x159 x160 x161 x162 x163 x164 x165 x166 : Value)
    (hB : B = (findR 9 (Tryd.f13.body.getD .skip)).getD .skip) (H : RtIn w Sd gd r) (ha : a ≤ r.k.length) (hl : r.k.length ≤ 100000)
    (hK : ∀ (u40 u41 u42 u43 u44 u45 u46 u47 u48 u49 u50 : Value) (w' : World), (∃ Sd', RtIn w' Sd' gd ⟨r.k.take a, r.room, r.has, r.fuse, r.dead⟩ ∧ Oth Sd w w' ∧ ∀ k, Sd' k → Sd k ∨ w.heap.size ≤ k) → K { tmps := List.toArray ((.pointer (some ⟨gd, 0, none⟩)) :: x1 :: x2 :: x3 :: x4 :: (.int .i64 (a : Int)) :: x6 :: x7 :: x8 :: x9 :: x10 :: x11 :: x12 :: x13 :: x14 :: x15 :: x16 :: x17 :: x18 :: x19 :: x20 :: x21 :: x22 :: x23 :: x24 :: x25 :: x26 :: x27 :: x28 :: x29 :: x30 :: x31 :: x32 :: x33 :: x34 :: x35 :: x36 :: x37 :: x38 :: x39 :: (u40) :: (u41) :: (u42) :: (u43) :: (u44) :: (u45) :: (u46) :: (u47) :: (u48) :: (u49) :: (u50) :: x51 :: x52 :: x53 :: x54 :: x55 :: x56 :: x57 :: x58 :: x59 :: x60 :: x61 :: x62 :: x63 :: x64 :: x65 :: x66 :: x67 :: x68 :: x69 :: x70 :: x71 :: x72 :: x73 :: x74 :: x75 :: x76 :: x77 :: x78 :: x79 :: x80 :: x81 :: x82 :: x83 :: x84 :: x85 :: x86 :: x87 :: x88 :: x89 :: x90 :: x91 :: x92 :: x93 :: x94 :: x95 :: x96 :: x97 :: x98 :: x99 :: x100 :: x101 :: x102 :: x103 :: x104 :: x105 :: x106 :: x107 :: x108 :: x109 :: x110 :: x111 :: x112 :: x113 :: x114 :: x115 :: x116 :: x117 :: x118 :: x119 :: x120 :: x121 :: x122 :: x123 :: x124 :: x125 :: x126 :: x127 :: x128 :: x129 :: x130 :: x131 :: x132 :: x133 :: x134 :: x135 :: x136 :: x137 :: x138 :: x139 :: x140 :: x141 :: x142 :: x143 :: x144 :: x145 :: x146 :: x147 :: x148 :: x149 :: x150 :: x151 :: x152 :: x153 :: x154 :: x155 :: x156 :: x157 :: x158 :: x159 :: x160 :: x161 :: x162 :: x163 :: x164 :: x165 :: x166 :: []), defers := [] } w') :
    Code.wp Tryd.prog B (Exit.then K Q') { tmps := List.toArray ((.pointer (some ⟨gd, 0, none⟩)) :: x1 :: x2 :: x3 :: x4 :: (.int .i64 (a : Int)) :: x6 :: x7 :: x8 :: x9 :: x10 :: x11 :: x12 :: x13 :: x14 :: x15 :: x16 :: x17 :: x18 :: x19 :: x20 :: x21 :: x22 :: x23 :: x24 :: x25 :: x26 :: x27 :: x28 :: x29 :: x30 :: x31 :: x32 :: x33 :: x34 :: x35 :: x36 :: x37 :: x38 :: x39 :: x40 :: x41 :: x42 :: x43 :: x44 :: x45 :: x46 :: x47 :: x48 :: x49 :: x50 :: x51 :: x52 :: x53 :: x54 :: x55 :: x56 :: x57 :: x58 :: x59 :: x60 :: x61 :: x62 :: x63 :: x64 :: x65 :: x66 :: x67 :: x68 :: x69 :: x70 :: x71 :: x72 :: x73 :: x74 :: x75 :: x76 :: x77 :: x78 :: x79 :: x80 :: x81 :: x82 :: x83 :: x84 :: x85 :: x86 :: x87 :: x88 :: x89 :: x90 :: x91 :: x92 :: x93 :: x94 :: x95 :: x96 :: x97 :: x98 :: x99 :: x100 :: x101 :: x102 :: x103 :: x104 :: x105 :: x106 :: x107 :: x108 :: x109 :: x110 :: x111 :: x112 :: x113 :: x114 :: x115 :: x116 :: x117 :: x118 :: x119 :: x120 :: x121 :: x122 :: x123 :: x124 :: x125 :: x126 :: x127 :: x128 :: x129 :: x130 :: x131 :: x132 :: x133 :: x134 :: x135 :: x136 :: x137 :: x138 :: x139 :: x140 :: x141 :: x142 :: x143 :: x144 :: x145 :: x146 :: x147 :: x148 :: x149 :: x150 :: x151 :: x152 :: x153 :: x154 :: x155 :: x156 :: x157 :: x158 :: x159 :: x160 :: x161 :: x162 :: x163 :: x164 :: x165 :: x166 :: []), defers := [] } w := by
  have HF := hide hK
  clear hK
  subst hB
  conv => arg 2; whnf
  obtain ⟨v, hr, ho, hg, hb⟩ := H
  obtain ⟨A0, c0, rfl, hs0⟩ := ho.sl
  have Hl := hide (show (r.k.take a).length = a by rw [List.length_take]; omega)
  have Hla := hide (show a ≤ 100000 by omega)
  have HSs := hide ((sl_front hs0 a).bound)
  obtain ⟨N, hN⟩ : ∃ N, N = r.k.length := ⟨_, rfl⟩
  rw [← hN] at hr ha hl
  have k0 := hr.cell 0
  have e0 := hr.free 0
  simp only [rtC, List.getElem?_cons_zero] at k0
  have hNc : N ≤ c0 := by rw [hN]; exact hs0.1
  have Hfr := hide (fun wz => run_front wz A0 N c0 a ha hNc)
  have hfr := Hfr.out
  have k0a : ∀ o, (w.alloc o).cell? ⟨gd, 0, none⟩ = some (.slice A0 N c0) := fun o => (hr.alloc o).cell 0
  have HR := hide hr
  have Hg := hide hg
  have Hb := hide hb
  clear hr ho hs0 hN hg hb hNc ha hl
  go_wp2_with (at_builtin; go_loud (refine wpList_cat rfl (.tmp 41) (.tmp 47) 38 rfl Tryd.underlying38 Wr.info8 w.heap.size w _ [] (r.k.take a) _ A0 c0 rfl (by rw [Hl.out]; rfl) (Own.made w w.heap.size 5 #[] 0 (Nat.le_refl _) rfl (Nat.zero_le _)) (HSs.out.move fun b hb _ => Below.heap_alloc w _ b hb.2) (by have := Hl.out; have := Hla.out; simp only [List.length_nil]; omega) ((Below.refl _ _).alloc (Nat.le_refl _) _) (by simp) ?_; intro v' w2 hown hb2 _; obtain ⟨Al, nl, cl, rfl⟩ : ∃ A n c, v' = .slice A n c := by { obtain ⟨A, c, e, _⟩ := hown.sl; exact ⟨A, _, c, e⟩ }; have HOw := hide hown; have HB2 := hide hb2; have HR2 := hide (HR.out.below hb2 HR.out.lt); have k0' := HR2.out.cell 0; have e0' := HR2.out.free 0; simp only [rtC, List.getElem?_cons_zero] at k0'; clear hown hb2))
  have HE := HR2.out.put 0 (.slice Al nl cl)
  have HOe : Own (w2.setCell ⟨gd, 0, none⟩ (.slice Al nl cl)) w.heap.size tU8 (.slice Al nl cl) (r.k.take a) := ownsRow_setCell_below HOw.out (a := ⟨gd, 0, none⟩) HR.out.lt _
  have HOx := (Oth.of_below Sd HB2.out).put (g := gd) (i := 0) (.inl Hg.out) (.slice Al nl cl)
  obtain ⟨S', q1, q2⟩ := rt_new Hg.out Hb.out HOx.size HE HOe
  exact HF.out _ _ _ _ _ _ _ _ _ _ _ _ ⟨S', q1, HOx, q2⟩
set_option maxRecDepth 100000 in
set_option maxHeartbeats 4000000 in
theorem cut16 {gd a : Nat} {r : Rt} {Sd : Nat → Prop} {w : World} {B : Code} {K : Act → World → Prop} {Q' : Exit → Act → World → Prop} (x1 x2 x3 x4 x6 x7 x8 x9 x10 x11 x12 x13 x14 x15 x16 x17 x18 x19 x20 x21 x22 x23 x24 x25 x26 x27 x28 x29 x30 x31 x32 x33 x34 x35 x36 x37 x38 x39 x40 x41 x42 x43 x44 x45 x46 x47 x48 x49 x50 x51 x52 x53 x54 x55 x56 x57 x58 x59 x60 x61 x62 x63 x64 x65 x66 x67 x68 x69 x70 x71 x72 x73 x74 x75 x76 x77 x78 x79 x80 x81 x82 x83 x84 x85 x86 x87 x88 x89 x90 x91 x92 x93 x94 x95 x96 x97 x98 x99 x100 x101 x102 x103 x104 x105 x106 x107 x108 x109 x110 x111 x112 x113 x114 x115 x116 x117 x118 x119 x120 x121 x122 x123 x124 x125 x126 x127 x128 x129 x130 x131 x132 x133 x134 x135 x136 x137 x138 x139 x140 x141 x142 x143 x144 x145 x146 x147 x148 x149 x150 x151 x152 x153 x154 x155 x156 x157 x158 x159 x160 x161 x162 x163 x164 x165 x166 : Value)
    (hB : B = (findR 16 (Tryd.f13.body.getD .skip)).getD .skip) (H : RtIn w Sd gd r) (ha : a ≤ r.k.length) (hl : r.k.length ≤ 100000)
    (hK : ∀ (u69 u70 u71 u72 u73 u74 u75 u76 u77 u78 u79 : Value) (w' : World), (∃ Sd', RtIn w' Sd' gd ⟨r.k.take a, r.room, r.has, r.fuse, r.dead⟩ ∧ Oth Sd w w' ∧ ∀ k, Sd' k → Sd k ∨ w.heap.size ≤ k) → K { tmps := List.toArray ((.pointer (some ⟨gd, 0, none⟩)) :: x1 :: x2 :: x3 :: x4 :: (.int .i64 (a : Int)) :: x6 :: x7 :: x8 :: x9 :: x10 :: x11 :: x12 :: x13 :: x14 :: x15 :: x16 :: x17 :: x18 :: x19 :: x20 :: x21 :: x22 :: x23 :: x24 :: x25 :: x26 :: x27 :: x28 :: x29 :: x30 :: x31 :: x32 :: x33 :: x34 :: x35 :: x36 :: x37 :: x38 :: x39 :: x40 :: x41 :: x42 :: x43 :: x44 :: x45 :: x46 :: x47 :: x48 :: x49 :: x50 :: x51 :: x52 :: x53 :: x54 :: x55 :: x56 :: x57 :: x58 :: x59 :: x60 :: x61 :: x62 :: x63 :: x64 :: x65 :: x66 :: x67 :: x68 :: (u69) :: (u70) :: (u71) :: (u72) :: (u73) :: (u74) :: (u75) :: (u76) :: (u77) :: (u78) :: (u79) :: x80 :: x81 :: x82 :: x83 :: x84 :: x85 :: x86 :: x87 :: x88 :: x89 :: x90 :: x91 :: x92 :: x93 :: x94 :: x95 :: x96 :: x97 :: x98 :: x99 :: x100 :: x101 :: x102 :: x103 :: x104 :: x105 :: x106 :: x107 :: x108 :: x109 :: x110 :: x111 :: x112 :: x113 :: x114 :: x115 :: x116 :: x117 :: x118 :: x119 :: x120 :: x121 :: x122 :: x123 :: x124 :: x125 :: x126 :: x127 :: x128 :: x129 :: x130 :: x131 :: x132 :: x133 :: x134 :: x135 :: x136 :: x137 :: x138 :: x139 :: x140 :: x141 :: x142 :: x143 :: x144 :: x145 :: x146 :: x147 :: x148 :: x149 :: x150 :: x151 :: x152 :: x153 :: x154 :: x155 :: x156 :: x157 :: x158 :: x159 :: x160 :: x161 :: x162 :: x163 :: x164 :: x165 :: x166 :: []), defers := [] } w') :
    Code.wp Tryd.prog B (Exit.then K Q') { tmps := List.toArray ((.pointer (some ⟨gd, 0, none⟩)) :: x1 :: x2 :: x3 :: x4 :: (.int .i64 (a : Int)) :: x6 :: x7 :: x8 :: x9 :: x10 :: x11 :: x12 :: x13 :: x14 :: x15 :: x16 :: x17 :: x18 :: x19 :: x20 :: x21 :: x22 :: x23 :: x24 :: x25 :: x26 :: x27 :: x28 :: x29 :: x30 :: x31 :: x32 :: x33 :: x34 :: x35 :: x36 :: x37 :: x38 :: x39 :: x40 :: x41 :: x42 :: x43 :: x44 :: x45 :: x46 :: x47 :: x48 :: x49 :: x50 :: x51 :: x52 :: x53 :: x54 :: x55 :: x56 :: x57 :: x58 :: x59 :: x60 :: x61 :: x62 :: x63 :: x64 :: x65 :: x66 :: x67 :: x68 :: x69 :: x70 :: x71 :: x72 :: x73 :: x74 :: x75 :: x76 :: x77 :: x78 :: x79 :: x80 :: x81 :: x82 :: x83 :: x84 :: x85 :: x86 :: x87 :: x88 :: x89 :: x90 :: x91 :: x92 :: x93 :: x94 :: x95 :: x96 :: x97 :: x98 :: x99 :: x100 :: x101 :: x102 :: x103 :: x104 :: x105 :: x106 :: x107 :: x108 :: x109 :: x110 :: x111 :: x112 :: x113 :: x114 :: x115 :: x116 :: x117 :: x118 :: x119 :: x120 :: x121 :: x122 :: x123 :: x124 :: x125 :: x126 :: x127 :: x128 :: x129 :: x130 :: x131 :: x132 :: x133 :: x134 :: x135 :: x136 :: x137 :: x138 :: x139 :: x140 :: x141 :: x142 :: x143 :: x144 :: x145 :: x146 :: x147 :: x148 :: x149 :: x150 :: x151 :: x152 :: x153 :: x154 :: x155 :: x156 :: x157 :: x158 :: x159 :: x160 :: x161 :: x162 :: x163 :: x164 :: x165 :: x166 :: []), defers := [] } w := by
  have HF := hide hK
  clear hK
  subst hB
  conv => arg 2; whnf
  obtain ⟨v, hr, ho, hg, hb⟩ := H
  obtain ⟨A0, c0, rfl, hs0⟩ := ho.sl
  have Hl := hide (show (r.k.take a).length = a by rw [List.length_take]; omega)
  have Hla := hide (show a ≤ 100000 by omega)
  have HSs := hide ((sl_front hs0 a).bound)
  obtain ⟨N, hN⟩ : ∃ N, N = r.k.length := ⟨_, rfl⟩
  rw [← hN] at hr ha hl
  have k0 := hr.cell 0
  have e0 := hr.free 0
  simp only [rtC, List.getElem?_cons_zero] at k0
  have hNc : N ≤ c0 := by rw [hN]; exact hs0.1
  have Hfr := hide (fun wz => run_front wz A0 N c0 a ha hNc)
  have hfr := Hfr.out
  have k0a : ∀ o, (w.alloc o).cell? ⟨gd, 0, none⟩ = some (.slice A0 N c0) := fun o => (hr.alloc o).cell 0
  have HR := hide hr
  have Hg := hide hg
  have Hb := hide hb
  clear hr ho hs0 hN hg hb hNc ha hl
  go_wp2_with (at_builtin; go_loud (refine wpList_cat rfl (.tmp 70) (.tmp 76) 38 rfl Tryd.underlying38 Wr.info8 w.heap.size w _ [] (r.k.take a) _ A0 c0 rfl (by rw [Hl.out]; rfl) (Own.made w w.heap.size 5 #[] 0 (Nat.le_refl _) rfl (Nat.zero_le _)) (HSs.out.move fun b hb _ => Below.heap_alloc w _ b hb.2) (by have := Hl.out; have := Hla.out; simp only [List.length_nil]; omega) ((Below.refl _ _).alloc (Nat.le_refl _) _) (by simp) ?_; intro v' w2 hown hb2 _; obtain ⟨Al, nl, cl, rfl⟩ : ∃ A n c, v' = .slice A n c := by { obtain ⟨A, c, e, _⟩ := hown.sl; exact ⟨A, _, c, e⟩ }; have HOw := hide hown; have HB2 := hide hb2; have HR2 := hide (HR.out.below hb2 HR.out.lt); have k0' := HR2.out.cell 0; have e0' := HR2.out.free 0; simp only [rtC, List.getElem?_cons_zero] at k0'; clear hown hb2))
  have HE := HR2.out.put 0 (.slice Al nl cl)
  have HOe : Own (w2.setCell ⟨gd, 0, none⟩ (.slice Al nl cl)) w.heap.size tU8 (.slice Al nl cl) (r.k.take a) := ownsRow_setCell_below HOw.out (a := ⟨gd, 0, none⟩) HR.out.lt _
  have HOx := (Oth.of_below Sd HB2.out).put (g := gd) (i := 0) (.inl Hg.out) (.slice Al nl cl)
  obtain ⟨S', q1, q2⟩ := rt_new Hg.out Hb.out HOx.size HE HOe
  exact HF.out _ _ _ _ _ _ _ _ _ _ _ _ ⟨S', q1, HOx, q2⟩
end Go.Proofs.YtcmjdepjckhpdaaDoor.So
