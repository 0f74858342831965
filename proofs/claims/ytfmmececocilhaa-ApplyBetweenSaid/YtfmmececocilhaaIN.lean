/-
  Is a hunk begun by an edit? Is an edit the last of its hunk?
-/
import Derived.Test.YtfmmececocilhaaII
namespace Go.Proofs.Ytfmmececocilhaa.Hu
open Go Go.RowKit Kt Lw Li Df

/-- the region, the test of a number within a code -/
def findR (n : Nat) : Code → Option Code
  | .seq a b => (findR n a).or (findR n b)
  | .block _ b => findR n b
  | .loop b => findR n b
  | .cond _ a b => (findR n a).or (findR n b)
  | .region m ops dr => if m = n then some (.region m ops dr) else none
  | _ => none
def isTmp (n : Nat) : Operand → Bool
  | .tmp m => m == n
  | _ => false
def findC (n : Nat) : Code → Option Code
  | .seq a b => (findC n a).or (findC n b)
  | .block _ b => findC n b
  | .loop b => findC n b
  | .cond c a b => if isTmp n c then some (.cond c a b) else (findC n a).or (findC n b)
  | _ => none
set_option maxHeartbeats 4000000 in
set_option maxRecDepth 100000 in
theorem part10 {a : Ls} {r n N k p d I z : Nat} {L : List Ed} {T : List Hk} {f : Ed} {Ae : Option Addr} {c' ce bE oE : Nat} {w wr : World} {v : Value} {more : Int} {B : Code} (x0 x3 x4 x5 x6 x7 x8 x9 x10 x11 x13 x14 x15 x16 x17 x18 x19 x20 x21 x22 x23 x24 x25 x26 x27 x28 x29 x30 x31 x32 x33 x34 x35 x36 x37 x38 x39 x40 x41 x42 x43 x44 x45 x46 x47 x48 x49 x50 x51 x52 x53 x54 x55 x56 x57 x58 x59 x60 x61 x62 x63 x64 x65 x66 x67 x68 x69 x70 x71 x72 x73 x74 x75 x76 x77 x78 x79 x80 x81 x82 x83 x84 x85 x86 x87 x88 x89 x90 x91 x92 x93 x94 x95 x96 x97 x98 x99 x100 x101 x102 x103 x104 x105 x106 x107 x108 x109 x110 x111 x112 x113 x114 x115 x116 x117 x118 x119 x120 x121 x122 x123 x124 x125 x126 x127 x128 x129 x130 x131 x132 x133 x134 x135 x136 x137 x138 x139 x140 x141 x142 x143 x144 x145 x146 x147 x148 x149 x150 x151 x152 x153 x154 x155 x156 x157 x158 x159 x160 x161 x162 x163 x164 x165 x166 x167 x168 x169 x170 x171 x172 x173 x174 x175 x176 x177 x178 x179 x180 x181 x182 x183 x184 x185 x186 x187 x188 x189 x190 x191 x192 x193 x194 x195 x196 x197 x198 x199 x200 x201 x202 x203 x204 x205 x206 x207 x208 x209 x210 x211 x212 x213 x214 x215 x216 x217 x218 x219 x220 x221 x222 x223 x224 x225 x226 : Value) (K : Act → World → Prop) (Q' : Exit → Act → World → Prop)
    (hB : B = (findR 10 (Try.f21.body.getD .skip)).getD .skip) (hE : ∀ w', Below w.heap.size w w' → w'.cell? ⟨bE, oE + k * 3, none⟩ = some (.int .i64 p) ∧ w'.cell? ⟨bE, oE + k * 3 + 1, none⟩ = some (.int .i64 d) ∧ w'.cell? ⟨bE, oE + k * 3 + 2, none⟩ = some (.slice Ae I ce)) (hs' : Es w (some ⟨bE, oE, none⟩) c' L) (hN : N = L.length) (hna : n = a.length) (hr : right a.length (-1) L = true) (hke : L[k]? = some f) (hdk : L.drop k = f :: L.drop (k + 1)) (hp : f.pos = (p : Int)) (hn : n ≤ 24) (hl : N ≤ 20) (hlt : k < N) (hr1 : r ≤ 1000) (_hmore : -1000 * (k : Int) ≤ more ∧ more ≤ 1000 * k) (hpn : p ≤ n) (_hzn : z ≤ n) (hb : Below w.heap.size w wr) (hst : Shut a r L T wr w.heap.size v k more ∨ Open a r L T wr w.heap.size v k z more)
    (hK : ∀ (u13 u40 u41 u42 u43 u44 u45 u46 u47 u48 u49 u50 u51 u52 u53 u54 u55 u56 u57 u58 u59 u60 u61 u62 u63 u64 u65 : Value) (wx : World), (∃ fs : Bool, u13 = .bool fs ∧ Fst a r L T wx w.heap.size v k z more fs ∧ Below w.heap.size w wx) → K { tmps := #[x0, .slice (some ⟨bE, oE, none⟩) N c', .int .i64 (r : Int), x3, x4, x5, x6, x7, x8, x9, x10, x11, .int .i64 (k : Int), u13, x14, x15, x16, x17, x18, x19, x20, x21, x22, x23, x24, x25, x26, x27, x28, x29, x30, x31, x32, x33, x34, x35, x36, x37, x38, x39, u40, u41, u42, u43, u44, u45, u46, u47, u48, u49, u50, u51, u52, u53, u54, u55, u56, u57, u58, u59, u60, u61, u62, u63, u64, u65, x66, x67, x68, x69, x70, x71, x72, x73, x74, x75, x76, x77, x78, x79, x80, x81, x82, x83, x84, x85, x86, x87, x88, x89, x90, x91, x92, x93, x94, x95, x96, x97, x98, x99, x100, x101, x102, x103, x104, x105, x106, x107, x108, x109, x110, x111, x112, x113, x114, x115, x116, x117, x118, x119, x120, x121, x122, x123, x124, x125, x126, x127, x128, x129, x130, x131, x132, x133, x134, x135, x136, x137, x138, x139, x140, x141, x142, x143, x144, x145, x146, x147, x148, x149, x150, x151, x152, x153, x154, x155, x156, x157, x158, x159, x160, x161, x162, x163, x164, x165, x166, x167, x168, x169, x170, x171, x172, x173, x174, x175, x176, x177, x178, x179, x180, x181, x182, x183, x184, x185, x186, x187, x188, x189, x190, x191, x192, x193, x194, x195, x196, x197, x198, x199, x200, x201, x202, x203, x204, x205, x206, x207, x208, x209, x210, x211, x212, x213, x214, x215, x216, x217, x218, x219, x220, x221, x222, x223, x224, x225, x226], defers := [] } wx) :
    Code.wp Try.prog B (Exit.then K Q') { tmps := #[x0, .slice (some ⟨bE, oE, none⟩) N c', .int .i64 (r : Int), x3, x4, x5, x6, x7, x8, x9, x10, x11, .int .i64 (k : Int), x13, x14, x15, x16, x17, x18, x19, x20, x21, x22, x23, x24, x25, x26, x27, x28, x29, x30, x31, x32, x33, x34, x35, x36, x37, x38, x39, x40, x41, x42, x43, x44, x45, x46, x47, x48, x49, x50, x51, x52, x53, x54, x55, x56, x57, x58, x59, x60, x61, x62, x63, x64, x65, x66, x67, x68, x69, x70, x71, x72, x73, x74, x75, x76, x77, x78, x79, x80, x81, x82, x83, x84, x85, x86, x87, x88, x89, x90, x91, x92, x93, x94, x95, x96, x97, x98, x99, x100, x101, x102, x103, x104, x105, x106, x107, x108, x109, x110, x111, x112, x113, x114, x115, x116, x117, x118, x119, x120, x121, x122, x123, x124, x125, x126, x127, x128, x129, x130, x131, x132, x133, x134, x135, x136, x137, x138, x139, x140, x141, x142, x143, x144, x145, x146, x147, x148, x149, x150, x151, x152, x153, x154, x155, x156, x157, x158, x159, x160, x161, x162, x163, x164, x165, x166, x167, x168, x169, x170, x171, x172, x173, x174, x175, x176, x177, x178, x179, x180, x181, x182, x183, x184, x185, x186, x187, x188, x189, x190, x191, x192, x193, x194, x195, x196, x197, x198, x199, x200, x201, x202, x203, x204, x205, x206, x207, x208, x209, x210, x211, x212, x213, x214, x215, x216, x217, x218, x219, x220, x221, x222, x223, x224, x225, x226], defers := [] } wr := by
  have HK := hide hK
  clear hK
  have HE := hide hE
  have Hs' := hide hs'
  have HN := hide hN
  have HA := hide hna
  have Hr := hide hr
  have Hke := hide hke
  have Hdk := hide hdk
  have Hp := hide hp
  have Hb := hide hb
  have Hst := hide hst
  clear hE hs' hN hna hr hke hdk hp hb hst
  have Hprev := hide (fun hk0 : k ≠ 0 => Hs'.out.at Hb.out (k := k - 1) (by have := HN.out; omega))
  subst hB
  conv => arg 2; whnf
  obtain ⟨c0, c1, c2⟩ := HE.out _ Hb.out
  rcases Hst.out with hst | hst
  · have Hsh := hide hst
    clear hst Hst
    by_cases hk0 : k = 0
    · have hk0b : ((k : Int) == 0) = true := by rw [hk0]; rfl
      clear hk0 Hprev
      go_wp2
      go_quiet (fail)
      go_wp2
      refine HK.out _ _ _ _ _ _ _ _ _ _ _ _ _ _ _ _ _ _ _ _ _ _ _ _ _ _ _ _ ?_
      exact ⟨true, rfl, .inl ⟨rfl, Hsh.out.keep (below_drewN (Below.refl _ _) nq)⟩, below_drewN Hb.out nq⟩
    · have hk0b : ((k : Int) == 0) = false := beq_eq_false_iff_ne.2 (by omega)
      obtain ⟨b2, o2, f2, A2, c2', hA2, hke2, ⟨d0, d1, _⟩, _⟩ := Hprev.out hk0
      injection hA2 with hA2
      injection hA2 with hA2 hA3 _
      subst hA2 hA3
      obtain ⟨j, hj⟩ : ∃ j, j = k - 1 := ⟨_, rfl⟩
      rw [← hj] at hke2 d0 d1
      have hwk : IntKind.i64.wrap ((k : Int) - 1) = (j : Int) := by rw [IntWalk.i64_in _ (by omega)]; omega
      have hjN : j < N := by omega
      have hbd2 := right_bd a.length L (-1) Hr.out (by omega) f2 (List.mem_of_getElem? hke2)
      rw [← HA.out] at hbd2
      obtain ⟨p2, hp2⟩ := Int.eq_ofNat_of_zero_le hbd2.1.1
      obtain ⟨q2, hq2⟩ := Int.eq_ofNat_of_zero_le hbd2.2.1
      have hpb2 : p2 ≤ n := by omega
      have hqb2 : q2 ≤ n := by omega
      rw [hp2] at d0
      rw [hq2] at d1
      have hff : 2 * (r : Int) < (p : Int) - ((p2 : Int) + q2) := by
        obtain ⟨_, _, _, _, _, hfar⟩ := Hsh.out
        have := hfar f2 f hk0 (by rw [← hj]; exact hke2) Hke.out
        rw [Hp.out] at this
        unfold Hu.fin at this
        omega
      have hffd : decide (2 * (r : Int) < (p : Int) - ((p2 : Int) + q2)) = true := decide_eq_true hff
      clear hbd2 hp2 hq2 hke2 hj Hprev hk0
      go_wp2
      go_quiet (fail)
      go_wp2
      refine HK.out _ _ _ _ _ _ _ _ _ _ _ _ _ _ _ _ _ _ _ _ _ _ _ _ _ _ _ _ ?_
      exact ⟨true, rfl, .inl ⟨rfl, Hsh.out.keep (below_drewN (Below.refl _ _) nq)⟩, below_drewN Hb.out nq⟩
  · have Hop := hide hst
    have hk0 := hst.1
    clear hst Hst
    have hk0b : ((k : Int) == 0) = false := beq_eq_false_iff_ne.2 (by omega)
    obtain ⟨b2, o2, f2, A2, c2', hA2, hke2, ⟨d0, d1, _⟩, _⟩ := Hprev.out hk0
    injection hA2 with hA2
    injection hA2 with hA2 hA3 _
    subst hA2 hA3
    obtain ⟨j, hj⟩ : ∃ j, j = k - 1 := ⟨_, rfl⟩
    rw [← hj] at hke2 d0 d1
    have hwk : IntKind.i64.wrap ((k : Int) - 1) = (j : Int) := by rw [IntWalk.i64_in _ (by omega)]; omega
    have hjN : j < N := by omega
    have hbd2 := right_bd a.length L (-1) Hr.out (by omega) f2 (List.mem_of_getElem? hke2)
    rw [← HA.out] at hbd2
    obtain ⟨p2, hp2⟩ := Int.eq_ofNat_of_zero_le hbd2.1.1
    obtain ⟨q2, hq2⟩ := Int.eq_ofNat_of_zero_le hbd2.2.1
    have hpb2 : p2 ≤ n := by omega
    have hqb2 : q2 ≤ n := by omega
    rw [hp2] at d0
    rw [hq2] at d1
    have hff : ¬ 2 * (r : Int) < (p : Int) - ((p2 : Int) + q2) := by
      obtain ⟨_, _, _, _, _, _, _, _, _, _, _, _, _, _, _, hnear⟩ := Hop.out
      have := (hnear f2 f (by rw [← hj]; exact hke2) Hke.out).2
      rw [Hp.out] at this
      unfold Hu.fin at this
      omega
    have hffd : decide (2 * (r : Int) < (p : Int) - ((p2 : Int) + q2)) = false := decide_eq_false hff
    clear hbd2 hp2 hq2 hke2 hj Hprev hk0
    go_wp2
    go_quiet (fail)
    go_wp2
    refine HK.out _ _ _ _ _ _ _ _ _ _ _ _ _ _ _ _ _ _ _ _ _ _ _ _ _ _ _ _ ?_
    exact ⟨false, rfl, .inr ⟨rfl, Hop.out.keep (below_drewN (Below.refl _ _) nq)⟩, below_drewN Hb.out nq⟩
end Go.Proofs.Ytfmmececocilhaa.Hu
namespace Go.Proofs.Ytfmmececocilhaa.Hu
open Go Go.RowKit Kt Lw Li Df

set_option maxHeartbeats 4000000 in
set_option maxRecDepth 100000 in
theorem part66 {a : Ls} {r n N k p d I z : Nat} {L : List Ed} {T : List Hk} {f : Ed} {Ae : Option Addr} {c' ce bE oE : Nat} {w wr : World} {v : Value} {more : Int} {fs : Bool} {B : Code} (x0 x3 x4 x5 x6 x7 x8 x13 x14 x15 x16 x17 x18 x19 x20 x21 x22 x23 x24 x25 x26 x27 x28 x29 x30 x31 x32 x33 x34 x35 x36 x37 x38 x39 x40 x41 x42 x43 x44 x45 x46 x47 x48 x49 x50 x51 x52 x53 x54 x55 x56 x57 x58 x59 x60 x61 x62 x63 x64 x65 x67 x68 x69 x70 x71 x72 x73 x74 x75 x76 x77 x78 x79 x80 x81 x82 x83 x84 x85 x86 x87 x88 x89 x90 x91 x92 x93 x94 x95 x96 x97 x98 x99 x100 x101 x102 x103 x104 x105 x106 x107 x108 x109 x110 x111 x112 x113 x114 x115 x116 x117 x118 x119 x120 x121 x122 x123 x124 x125 x126 x127 x128 x129 x130 x131 x132 x133 x134 x135 x136 x137 x138 x139 x140 x141 x142 x143 x144 x145 x146 x147 x148 x149 x150 x151 x152 x153 x154 x155 x156 x157 x158 x159 x160 x161 x162 x163 x164 x165 x166 x167 x168 x169 x170 x171 x172 x173 x174 x175 x176 x177 x178 x179 x180 x181 x182 x183 x184 x185 x186 x187 x188 x189 x190 x191 x192 x193 x194 x195 x196 x197 x198 x199 x200 x201 x202 x203 x204 x205 x206 x207 x208 x209 x210 x211 x212 x213 x214 x215 x216 x217 x218 x219 x220 x221 x222 x223 x224 x225 x226 : Value) (K : Act → World → Prop) (Q' : Exit → Act → World → Prop)
    (hB : B = (findC 66 (Try.f21.body.getD .skip)).getD .skip) (hE : ∀ w', Below w.heap.size w w' → w'.cell? ⟨bE, oE + k * 3, none⟩ = some (.int .i64 p) ∧ w'.cell? ⟨bE, oE + k * 3 + 1, none⟩ = some (.int .i64 d) ∧ w'.cell? ⟨bE, oE + k * 3 + 2, none⟩ = some (.slice Ae I ce)) (hs' : Es w (some ⟨bE, oE, none⟩) c' L) (hN : N = L.length) (hna : n = a.length) (hr : right a.length (-1) L = true) (hke : L[k]? = some f) (hdk : L.drop k = f :: L.drop (k + 1)) (hp : f.pos = (p : Int)) (hn : n ≤ 24) (hl : N ≤ 20) (hlt : k < N) (hr1 : r ≤ 1000) (hmore : -1000 * (k : Int) ≤ more ∧ more ≤ 1000 * k) (hpn : p ≤ n) (_hzn : z ≤ n) (hb : Below w.heap.size w wr) (hfs : Fst a r L T wr w.heap.size v k z more fs)
    (hK : ∀ (u9 u10 u14 u67 u68 u69 u70 u71 u72 u73 u74 u75 u76 u77 u78 u79 u80 u81 u82 u83 : Value) (wx : World), (∃ z' : Nat, u10 = .int .i64 z' ∧ Mid a r T wx w.heap.size u9 k z' more f (L.drop (k + 1)) ∧ Below w.heap.size w wx) → K { tmps := #[x0, .slice (some ⟨bE, oE, none⟩) N c', .int .i64 (r : Int), x3, x4, x5, x6, x7, x8, u9, u10, .int .i64 more, .int .i64 (k : Int), x13, u14, x15, x16, x17, x18, x19, x20, x21, x22, x23, x24, x25, x26, x27, x28, x29, x30, x31, x32, x33, x34, x35, x36, x37, x38, x39, x40, x41, x42, x43, x44, x45, x46, x47, x48, x49, x50, x51, x52, x53, x54, x55, x56, x57, x58, x59, x60, x61, x62, x63, x64, x65, .bool fs, u67, u68, u69, u70, u71, u72, u73, u74, u75, u76, u77, u78, u79, u80, u81, u82, u83, x84, x85, x86, x87, x88, x89, x90, x91, x92, x93, x94, x95, x96, x97, x98, x99, x100, x101, x102, x103, x104, x105, x106, x107, x108, x109, x110, x111, x112, x113, x114, x115, x116, x117, x118, x119, x120, x121, x122, x123, x124, x125, x126, x127, x128, x129, x130, x131, x132, x133, x134, x135, x136, x137, x138, x139, x140, x141, x142, x143, x144, x145, x146, x147, x148, x149, x150, x151, x152, x153, x154, x155, x156, x157, x158, x159, x160, x161, x162, x163, x164, x165, x166, x167, x168, x169, x170, x171, x172, x173, x174, x175, x176, x177, x178, x179, x180, x181, x182, x183, x184, x185, x186, x187, x188, x189, x190, x191, x192, x193, x194, x195, x196, x197, x198, x199, x200, x201, x202, x203, x204, x205, x206, x207, x208, x209, x210, x211, x212, x213, x214, x215, x216, x217, x218, x219, x220, x221, x222, x223, x224, x225, x226], defers := [] } wx) :
    Code.wp Try.prog B (Exit.then K Q') { tmps := #[x0, .slice (some ⟨bE, oE, none⟩) N c', .int .i64 (r : Int), x3, x4, x5, x6, x7, x8, v, .int .i64 (z : Int), .int .i64 more, .int .i64 (k : Int), x13, x14, x15, x16, x17, x18, x19, x20, x21, x22, x23, x24, x25, x26, x27, x28, x29, x30, x31, x32, x33, x34, x35, x36, x37, x38, x39, x40, x41, x42, x43, x44, x45, x46, x47, x48, x49, x50, x51, x52, x53, x54, x55, x56, x57, x58, x59, x60, x61, x62, x63, x64, x65, .bool fs, x67, x68, x69, x70, x71, x72, x73, x74, x75, x76, x77, x78, x79, x80, x81, x82, x83, x84, x85, x86, x87, x88, x89, x90, x91, x92, x93, x94, x95, x96, x97, x98, x99, x100, x101, x102, x103, x104, x105, x106, x107, x108, x109, x110, x111, x112, x113, x114, x115, x116, x117, x118, x119, x120, x121, x122, x123, x124, x125, x126, x127, x128, x129, x130, x131, x132, x133, x134, x135, x136, x137, x138, x139, x140, x141, x142, x143, x144, x145, x146, x147, x148, x149, x150, x151, x152, x153, x154, x155, x156, x157, x158, x159, x160, x161, x162, x163, x164, x165, x166, x167, x168, x169, x170, x171, x172, x173, x174, x175, x176, x177, x178, x179, x180, x181, x182, x183, x184, x185, x186, x187, x188, x189, x190, x191, x192, x193, x194, x195, x196, x197, x198, x199, x200, x201, x202, x203, x204, x205, x206, x207, x208, x209, x210, x211, x212, x213, x214, x215, x216, x217, x218, x219, x220, x221, x222, x223, x224, x225, x226], defers := [] } wr := by
  have HK := hide hK
  clear hK
  have HE := hide hE
  have Hs' := hide hs'
  have HN := hide hN
  have HA := hide hna
  have Hr := hide hr
  have Hke := hide hke
  have Hdk := hide hdk
  have Hp := hide hp
  have Hb := hide hb
  have Hfs := hide hfs
  clear hE hs' hN hna hr hke hdk hp hb hfs
  subst hB
  conv => arg 2; whnf
  obtain ⟨c0, c1, c2⟩ := HE.out _ Hb.out
  rcases Hfs.out with ⟨rfl, hst⟩ | ⟨rfl, hst⟩
  · obtain ⟨done, hown, htot, hdl, hrt, _⟩ := hst
    have Hown := hide hown
    have Htot := hide htot
    have Hrt := hide hrt
    clear hown htot hrt Hfs
    obtain ⟨zf, hzf⟩ : ∃ zf, zf = from_ r f := ⟨_, rfl⟩
    have Hzf := hide hzf
    have hmx1 : (if (0 : Int) < (p : Int) - r then (p : Int) - r else 0) = (zf : Int) := by
      have := Hp.out
      rw [hzf]; unfold from_; split <;> omega
    have hmx2 : (if (p : Int) - r < 0 then (0 : Int) else (p : Int) - r) = (zf : Int) := by
      have := Hp.out
      rw [hzf]; unfold from_; split <;> omega
    have hmx3 : (if (r : Int) < (p : Int) then (p : Int) - r else 0) = (zf : Int) := by
      have := Hp.out
      rw [hzf]; unfold from_; split <;> omega
    have hmx4 : (if r < p then (p : Int) - r else 0) = (zf : Int) := by
      have := Hp.out
      rw [hzf]; unfold from_; split <;> omega
    have hzp : zf ≤ p := by have := from_le r f p Hp.out; omega
    clear hzf
    obtain ⟨M, hM⟩ : ∃ M, M = done.length + 1 := ⟨_, rfl⟩
    have hMb : M ≤ 1000000 := by omega
    have hmore3 : -30000 ≤ more ∧ more ≤ 30000 := by omega
    have HM := hide hM
    have Hdl := hide hdl
    clear hM hdl hmore
    go_wp2_with (refine wpList_pushOH rfl (.tmp 75) (.tmp 81) rfl w.heap.size w _ done zf (zf + more) _ rfl rfl rfl Hown.out M HM.out (by have := Hdl.out; omega) Hb.out Hb.out.size ?_; intro go cap V w2 hV hoh hb2; have Hoh := hide hoh; have Hb2 := hide hb2; have HV := hide hV; clear hoh hb2 hV)
    refine HK.out _ _ _ _ _ _ _ _ _ _ _ _ _ _ _ _ _ _ _ _ _ ?_
    have hVl : V.length = done.length := by rw [← HV.out, List.length_map]
    refine ⟨zf, rfl, ⟨go, cap, V, ⟨zf, 0, zf + more, 0, []⟩, .slice none 0 0, [], zf, more, by rw [hVl, HM.out], ⟨⟨Hoh.out, OwT.nil _ _ _, fun p hp b hb => (by cases hb)⟩, ⟨rfl, rfl⟩, rfl, ?_, ?_, rfl, by simp [delta]⟩, ?_, by rw [hVl]; exact Hdl.out, by have := Hp.out; omega, by simp⟩, Hb2.out⟩
    · rw [HV.out, List.nil_append, ← Hdk.out]; exact Htot.out
    · rw [List.nil_append, ← Hdk.out]; exact Hrt.out
    · rw [Hzf.out]; exact Gr.one r f
  · obtain ⟨_, hkl, go, cap, V, e, vi, G, z0, m0, rfl, hg1, hgr, hVk, hll, hnear⟩ := hst
    have hz : z ≤ p := by
      have hr := hg1.right
      rw [Hdk.out] at hr
      obtain ⟨e0, g0, hG, _⟩ := hgr
      have := endB_le (z := z0) hr (fun h => by rw [hG] at h; cases h)
      rw [← hg1.fin, Hp.out] at this
      omega
    have hfin : ∃ e', L[k - 1]? = some e' := ⟨_, List.getElem?_eq_getElem (by omega)⟩
    have hn2 : f.pos - z ≤ 2 * (r : Int) := by
      obtain ⟨e', he'⟩ := hfin
      have := hnear e' f he' Hke.out
      omega
    have Hg := hide hg1
    have Hgr := hide hgr
    clear hg1 hgr hnear hfin Hfs
    go_wp2
    refine HK.out _ _ _ _ _ _ _ _ _ _ _ _ _ _ _ _ _ _ _ _ _ ?_
    have hg := Hg.out
    rw [Hdk.out] at hg
    refine ⟨z, rfl, ⟨go, cap, V, e, vi, G, z0, m0, rfl, hg, Gr.snoc Hgr.out (right_fst hg.right) (by rw [← hg.fin]; exact hn2), by omega, by have := Hp.out; omega, hll⟩, Hb.out⟩
end Go.Proofs.Ytfmmececocilhaa.Hu
namespace Go.Proofs.Ytfmmececocilhaa.Hu
open Go Go.RowKit Kt Lw Li Df

set_option maxHeartbeats 4000000 in
set_option maxRecDepth 100000 in
theorem part174 {a : Ls} {r n N k p d I z : Nat} {L : List Ed} {_T : List Hk} {f : Ed} {Ae : Option Addr} {c' ce bE oE : Nat} {w wr : World} {q N1 go cap gh : Nat} {V : List (Hk × Value)} {e : Hk} {vi X0 X1 X2 X3 v3 : Value} {L4 : Ls} {b18 b174 : Bool} {B : Code} (x0 x3 x4 x5 x6 x7 x8 x9 x11 x13 x14 x15 x16 x17 x19 x20 x21 x22 x23 x24 x25 x26 x27 x28 x29 x30 x31 x32 x33 x34 x35 x36 x37 x38 x39 x40 x41 x42 x43 x44 x45 x46 x47 x48 x49 x50 x51 x52 x53 x54 x55 x56 x57 x58 x59 x60 x61 x62 x63 x64 x65 x66 x67 x68 x69 x70 x71 x72 x73 x74 x75 x76 x77 x78 x79 x80 x81 x82 x83 x84 x85 x86 x87 x88 x89 x90 x91 x92 x93 x94 x95 x96 x97 x98 x99 x100 x101 x102 x103 x104 x105 x106 x107 x108 x109 x110 x111 x112 x113 x114 x115 x116 x117 x118 x119 x120 x121 x122 x123 x124 x125 x126 x127 x128 x129 x130 x131 x132 x133 x134 x135 x136 x137 x138 x139 x140 x141 x142 x143 x144 x145 x146 x147 x148 x149 x150 x151 x152 x153 x154 x155 x156 x157 x158 x159 x160 x161 x162 x163 x164 x165 x166 x167 x168 x169 x170 x171 x172 x173 x175 x176 x177 x178 x179 x180 x181 x182 x183 x184 x185 x186 x187 x188 x189 x190 x191 x192 x193 x194 x195 x196 x197 x198 x199 x200 x201 x202 x203 x204 x205 x206 x207 x208 x209 x210 x211 x212 x213 x214 x215 x216 x217 x218 x219 x220 x221 x222 x223 x224 x225 x226 : Value) (K : Act → World → Prop) (Q' : Exit → Act → World → Prop)
    (hB : B = (findC 174 (Try.f21.body.getD .skip)).getD .skip) (hE : ∀ w', Below w.heap.size w w' → w'.cell? ⟨bE, oE + k * 3, none⟩ = some (.int .i64 p) ∧ w'.cell? ⟨bE, oE + k * 3 + 1, none⟩ = some (.int .i64 d) ∧ w'.cell? ⟨bE, oE + k * 3 + 2, none⟩ = some (.slice Ae I ce)) (hs' : Es w (some ⟨bE, oE, none⟩) c' L) (hN : N = L.length) (hna : n = a.length) (hr : right a.length (-1) L = true) (hke : L[k]? = some f) (hdk : L.drop k = f :: L.drop (k + 1)) (hp : f.pos = (p : Int)) (hn : n ≤ 24) (hl : N ≤ 20) (hlt : k < N) (hr1 : r ≤ 1000) (_hpn : p ≤ n) (_hzn : z ≤ n) (hqn : q ≤ n) (hmk : MK w wr w.heap.size go cap V e vi gh X0 X1 X2 X3 v3 (L4)) (hN1 : N1 = N - 1) (hb18 : b18 = ((k : Int) == (N1 : Int))) (hb174 : b174 = !b18)
    (hK : ∀ (u18 u175 u176 u177 u178 u179 u180 u181 u182 u183 u184 u185 : Value) (wx : World), (∃ ls : Bool, u18 = .bool ls ∧ ((ls = true ∧ ∀ f', L[k + 1]? = some f' → 2 * (r : Int) < f'.pos - q) ∨ (ls = false ∧ k + 1 < N ∧ ∀ f', L[k + 1]? = some f' → f'.pos - q ≤ 2 * (r : Int))) ∧ MK w wx w.heap.size go cap V e vi gh X0 X1 X2 X3 v3 (L4)) → K { tmps := #[x0, .slice (some ⟨bE, oE, none⟩) N c', .int .i64 (r : Int), x3, x4, x5, x6, x7, x8, x9, .int .i64 (q : Int), x11, .int .i64 (k : Int), x13, x14, x15, x16, x17, u18, x19, x20, x21, x22, x23, x24, x25, x26, x27, x28, x29, x30, x31, x32, x33, x34, x35, x36, x37, x38, x39, x40, x41, x42, x43, x44, x45, x46, x47, x48, x49, x50, x51, x52, x53, x54, x55, x56, x57, x58, x59, x60, x61, x62, x63, x64, x65, x66, x67, x68, x69, x70, x71, x72, x73, x74, x75, x76, x77, x78, x79, x80, x81, x82, x83, x84, x85, x86, x87, x88, x89, x90, x91, x92, x93, x94, x95, x96, x97, x98, x99, x100, x101, x102, x103, x104, x105, x106, x107, x108, x109, x110, x111, x112, x113, x114, x115, x116, x117, x118, x119, x120, x121, x122, x123, x124, x125, x126, x127, x128, x129, x130, x131, x132, x133, x134, x135, x136, x137, x138, x139, x140, x141, x142, x143, x144, x145, x146, x147, x148, x149, x150, x151, x152, x153, x154, x155, x156, x157, x158, x159, x160, x161, x162, x163, x164, x165, x166, x167, x168, x169, x170, x171, x172, x173, .bool b174, u175, u176, u177, u178, u179, u180, u181, u182, u183, u184, u185, x186, x187, x188, x189, x190, x191, x192, x193, x194, x195, x196, x197, x198, x199, x200, x201, x202, x203, x204, x205, x206, x207, x208, x209, x210, x211, x212, x213, x214, x215, x216, x217, x218, x219, x220, x221, x222, x223, x224, x225, x226], defers := [] } wx) :
    Code.wp Try.prog B (Exit.then K Q') { tmps := #[x0, .slice (some ⟨bE, oE, none⟩) N c', .int .i64 (r : Int), x3, x4, x5, x6, x7, x8, x9, .int .i64 (q : Int), x11, .int .i64 (k : Int), x13, x14, x15, x16, x17, .bool b18, x19, x20, x21, x22, x23, x24, x25, x26, x27, x28, x29, x30, x31, x32, x33, x34, x35, x36, x37, x38, x39, x40, x41, x42, x43, x44, x45, x46, x47, x48, x49, x50, x51, x52, x53, x54, x55, x56, x57, x58, x59, x60, x61, x62, x63, x64, x65, x66, x67, x68, x69, x70, x71, x72, x73, x74, x75, x76, x77, x78, x79, x80, x81, x82, x83, x84, x85, x86, x87, x88, x89, x90, x91, x92, x93, x94, x95, x96, x97, x98, x99, x100, x101, x102, x103, x104, x105, x106, x107, x108, x109, x110, x111, x112, x113, x114, x115, x116, x117, x118, x119, x120, x121, x122, x123, x124, x125, x126, x127, x128, x129, x130, x131, x132, x133, x134, x135, x136, x137, x138, x139, x140, x141, x142, x143, x144, x145, x146, x147, x148, x149, x150, x151, x152, x153, x154, x155, x156, x157, x158, x159, x160, x161, x162, x163, x164, x165, x166, x167, x168, x169, x170, x171, x172, x173, .bool b174, x175, x176, x177, x178, x179, x180, x181, x182, x183, x184, x185, x186, x187, x188, x189, x190, x191, x192, x193, x194, x195, x196, x197, x198, x199, x200, x201, x202, x203, x204, x205, x206, x207, x208, x209, x210, x211, x212, x213, x214, x215, x216, x217, x218, x219, x220, x221, x222, x223, x224, x225, x226], defers := [] } wr := by
  have HK := hide hK
  clear hK
  have HE := hide hE
  have Hs' := hide hs'
  have HN := hide hN
  have HA := hide hna
  have Hr := hide hr
  have Hke := hide hke
  have Hdk := hide hdk
  have Hp := hide hp
  have HM4n := hide hmk
  have HN1 := hide hN1
  have H18 := hide hb18
  have H174 := hide hb174
  clear hE hs' hN hna hr hke hdk hp hmk hN1 hb18 hb174
  subst hB
  conv => arg 2; whnf
  by_cases hla : k = N1
  · have hlb : ((k : Int) == (N1 : Int)) = true := by rw [hla]; exact beq_self_eq_true _
    have hno : ∀ f', L[k + 1]? = some f' → 2 * (r : Int) < f'.pos - q := fun f' hf' => by
      have h1 := (List.getElem?_eq_some_iff.1 hf').1
      have h2 := HN1.out
      have h3 := HN.out
      omega
    have Hno := hide hno
    clear hno hla
    obtain ⟨rfl⟩ : Nonempty (b18 = true) := ⟨by rw [H18.out, hlb]⟩
    obtain ⟨rfl⟩ : Nonempty (b174 = false) := ⟨by rw [H174.out]; rfl⟩
    go_wp2
    refine HK.out _ _ _ _ _ _ _ _ _ _ _ _ _ ?_
    exact ⟨true, rfl, .inl ⟨rfl, Hno.out⟩, HM4n.out⟩
  · have hlb : ((k : Int) == (N1 : Int)) = false := beq_eq_false_iff_ne.2 (by omega)
    have hk1 : k + 1 < N := by have := HN1.out; omega
    obtain ⟨bE', oE', f', A', c'', hA', hke', ⟨e0, _, _⟩, _⟩ := Hs'.out.at HM4n.out.low (k := k + 1) (by have := HN.out; omega)
    injection hA' with hA'
    injection hA' with hA1 hA2 _
    subst hA1 hA2
    have hbd2 := right_bd a.length L (-1) Hr.out (by omega) f' (List.mem_of_getElem? hke')
    rw [← HA.out] at hbd2
    obtain ⟨p2, hp2⟩ := Int.eq_ofNat_of_zero_le hbd2.1.1
    have hpb2 : p2 ≤ n := by omega
    rw [hp2] at e0
    have hun : ∀ f2, L[k + 1]? = some f2 → f2.pos = (p2 : Int) := fun f2 h2 => by rw [hke'] at h2; injection h2 with h2; rw [← h2, hp2]
    have Hun := hide hun
    clear hbd2 hp2 hke' hun hla
    obtain ⟨rfl⟩ : Nonempty (b18 = false) := ⟨by rw [H18.out, hlb]⟩
    obtain ⟨rfl⟩ : Nonempty (b174 = true) := ⟨by rw [H174.out]; rfl⟩
    by_cases hff : 2 * (r : Int) < (p2 : Int) - q
    · have hffd : decide (2 * (r : Int) < (p2 : Int) - q) = true := decide_eq_true hff
      go_wp2
      refine HK.out _ _ _ _ _ _ _ _ _ _ _ _ _ ?_
      exact ⟨true, rfl, .inl ⟨rfl, fun f2 h2 => by rw [Hun.out f2 h2]; exact hff⟩, HM4n.out⟩
    · have hffd : decide (2 * (r : Int) < (p2 : Int) - q) = false := decide_eq_false hff
      go_wp2
      refine HK.out _ _ _ _ _ _ _ _ _ _ _ _ _ ?_
      exact ⟨false, rfl, .inr ⟨rfl, hk1, fun f2 h2 => by rw [Hun.out f2 h2]; omega⟩, HM4n.out⟩
end Go.Proofs.Ytfmmececocilhaa.Hu
