/-
  The reference's Regions, piece by piece: the next edit; what a cluster has; its edits are marked.
-/
import Derived.BigQuiet
import Derived.Test.YtghnieddokhagaaJ1
import Derived.Test.YtghnieddokhagaaQJH
import Derived.Test.YtghnieddokhagaaQReg
namespace Go.Proofs.Ytghnieddokhagaa.Al
open Go Go.RowKit Kt Kg Lw Li Df Kf

def lay (n : Nat) (φ : Nat → Ed) : List Ed := (List.range n).map φ
theorem lay_len (n : Nat) (φ : Nat → Ed) : (lay n φ).length = n := by simp [lay]
theorem lay_at {n : Nat} {φ : Nat → Ed} {i : Nat} (h : i < n) : (lay n φ).getD i ⟨0, 0, []⟩ = φ i := by
  unfold lay
  rw [List.getD_eq_getElem?_getD, List.getElem?_map, List.getElem?_range h]; rfl
theorem lay_congr {n : Nat} {φ ψ : Nat → Ed} (h : ∀ i, i < n → φ i = ψ i) : lay n φ = lay n ψ := by
  unfold lay
  exact List.map_congr_left fun i hi => h i (List.mem_range.1 hi)
theorem lay_set {n : Nat} {φ : Nat → Ed} {i : Nat} (e : Ed) : (lay n φ).set i e = lay n fun j => if j = i then e else φ j := by
  apply List.ext_getElem?
  intro j
  unfold lay
  rw [List.getElem?_set]
  by_cases hj : j < n
  · by_cases h : i = j
    · subst h; simp [hj]
    · rw [if_neg h, List.getElem?_map, List.getElem?_map, List.getElem?_range hj]
      simp [show ¬ j = i from fun e => h e.symm]
  · have hr : (List.range n)[j]? = none := List.getElem?_eq_none (by simp; omega)
    rw [List.getElem?_map, List.getElem?_map, hr]
    by_cases h : i = j
    · subst h; simp [hj]
    · rw [if_neg h]; rfl
/-- an edit's cells, in a world behind -/
theorem lay_nth {w w' : World} {A : Option Addr} {c n : Nat} {φ : Nat → Ed} (h : Es w A c (lay n φ)) (hb : Below w.heap.size w w') {k : Nat} (hk : k < n) :
    ∃ b o A' c', A = some ⟨b, o, none⟩ ∧ w'.cell? ⟨b, o + k * 3, none⟩ = some (.int .i64 (φ k).pos) ∧ w'.cell? ⟨b, o + k * 3 + 1, none⟩ = some (.int .i64 (φ k).del) ∧ w'.cell? ⟨b, o + k * 3 + 2, none⟩ = some (.slice A' (φ k).ins.length c') := by
  have := es_nth h hb (k := k) (by rw [lay_len]; exact hk)
  rwa [lay_at hk] at this

set_option maxRecDepth 100000 in
set_option maxHeartbeats 4000000 in
theorem rg_first {A : Option Addr} {N c : Nat} {X N1 : Int} {φ : Nat → Ed} {w : World} {B : Code} {K : Act → World → Prop} {Q' : Exit → Act → World → Prop} (x0 x1 x2 x3 x4 x5 x6 x7 x9 x10 x12 x13 x17 x18 x19 x20 x21 x22 x23 x24 x25 x26 x27 x28 x29 x30 x31 x32 x33 x34 x35 x36 x37 x38 x39 x40 x41 x42 x43 x44 x45 x46 x47 x48 x49 x50 x51 x52 x53 x54 x55 x56 x57 x58 x59 x60 x61 x62 x63 x64 x65 x66 x67 x68 x69 x70 x71 x72 x73 x74 x75 x76 x77 x78 x79 x80 x81 x82 x83 x84 x85 x86 x87 x88 x89 x90 x91 x92 x93 x94 x95 x96 x97 x98 x99 x100 x101 x102 x103 x104 x105 x106 x107 x108 x109 x110 x111 x112 x113 x114 x115 x116 x117 x118 x119 x120 x121 x122 x123 x124 x125 x126 x127 x128 x129 x130 x131 x132 x133 x134 x135 x136 x137 x138 x139 x140 x141 x142 x143 x144 x145 x146 x147 x148 x149 x150 x151 x152 x153 x154 x155 x156 x157 x158 x159 x160 x161 x162 x163 x164 x165 x166 x167 x168 x169 x170 x171 x172 x173 x174 x175 x176 x177 x178 x179 x180 x181 x182 x183 x184 x185 x186 x187 x188 x189 x190 x191 x192 x193 x194 x195 x196 x197 x198 x199 x200 x201 x202 x203 x204 x205 x206 x207 x208 x209 x210 x211 x212 x213 x214 x215 x216 x217 x218 x219 x220 x221 x222 x223 x224 x225 x226 x227 x228 x229 x230 x231 x232 x233 x234 x235 x236 x237 x238 x239 x240 x241 x242 x243 x244 x245 x246 x247 x248 x249 x250 x251 x252 x253 x254 x255 x256 x257 x258 x259 x260 x261 x262 x263 x264 x265 x266 x267 x268 x269 x270 x271 x272 x273 x274 x275 x276 x277 : Value)
    (hB : B = (findB 2 (Try.f46.body.getD .skip)).getD .skip) (hs : Es w A c (lay N φ)) (hN : N ≤ 1000000)
    (hK : ∀ (u44 u45 u46 u47 u48 u49 u50 u51 u52 u53 u54 u55 u56 u57 u58 u59 u60 u61 u62 u63 u64 u65 u66 u67 u68 u69 u70 u71 : Value) (f1 f2 : Int), Fst φ X N1 N f1 f2 → K { tmps := List.toArray (x0 :: x1 :: x2 :: x3 :: x4 :: x5 :: x6 :: x7 :: (.slice A N c) :: x9 :: x10 :: (.int .i64 X) :: x12 :: x13 :: (.int .i64 f1) :: (.int .i64 f2) :: (.int .i64 N) :: x17 :: x18 :: x19 :: x20 :: x21 :: x22 :: x23 :: x24 :: x25 :: x26 :: x27 :: x28 :: x29 :: x30 :: x31 :: x32 :: x33 :: x34 :: x35 :: x36 :: x37 :: x38 :: x39 :: x40 :: x41 :: x42 :: x43 :: (u44) :: (u45) :: (u46) :: (u47) :: (u48) :: (u49) :: (u50) :: (u51) :: (u52) :: (u53) :: (u54) :: (u55) :: (u56) :: (u57) :: (u58) :: (u59) :: (u60) :: (u61) :: (u62) :: (u63) :: (u64) :: (u65) :: (u66) :: (u67) :: (u68) :: (u69) :: (u70) :: (u71) :: x72 :: x73 :: x74 :: x75 :: x76 :: x77 :: x78 :: x79 :: x80 :: x81 :: x82 :: x83 :: x84 :: x85 :: x86 :: x87 :: x88 :: x89 :: x90 :: x91 :: x92 :: x93 :: x94 :: x95 :: x96 :: x97 :: x98 :: x99 :: x100 :: x101 :: x102 :: x103 :: x104 :: x105 :: x106 :: x107 :: x108 :: x109 :: x110 :: x111 :: x112 :: x113 :: x114 :: x115 :: x116 :: x117 :: x118 :: x119 :: x120 :: x121 :: x122 :: x123 :: x124 :: x125 :: x126 :: x127 :: x128 :: x129 :: x130 :: x131 :: x132 :: x133 :: x134 :: x135 :: x136 :: x137 :: x138 :: x139 :: x140 :: x141 :: x142 :: x143 :: x144 :: x145 :: x146 :: x147 :: x148 :: x149 :: x150 :: x151 :: x152 :: x153 :: x154 :: x155 :: x156 :: x157 :: x158 :: x159 :: x160 :: x161 :: x162 :: x163 :: x164 :: x165 :: x166 :: x167 :: x168 :: x169 :: x170 :: x171 :: x172 :: x173 :: x174 :: x175 :: x176 :: x177 :: x178 :: x179 :: x180 :: x181 :: x182 :: x183 :: x184 :: x185 :: x186 :: x187 :: x188 :: x189 :: x190 :: x191 :: x192 :: x193 :: x194 :: x195 :: x196 :: x197 :: x198 :: x199 :: x200 :: x201 :: x202 :: x203 :: x204 :: x205 :: x206 :: x207 :: x208 :: x209 :: x210 :: x211 :: x212 :: x213 :: x214 :: x215 :: x216 :: x217 :: x218 :: x219 :: x220 :: x221 :: x222 :: x223 :: x224 :: x225 :: x226 :: x227 :: x228 :: x229 :: x230 :: x231 :: x232 :: x233 :: x234 :: x235 :: x236 :: x237 :: x238 :: x239 :: x240 :: x241 :: x242 :: x243 :: x244 :: x245 :: x246 :: x247 :: x248 :: x249 :: x250 :: x251 :: x252 :: x253 :: x254 :: x255 :: x256 :: x257 :: x258 :: x259 :: x260 :: x261 :: x262 :: x263 :: x264 :: x265 :: x266 :: x267 :: x268 :: x269 :: x270 :: x271 :: x272 :: x273 :: x274 :: x275 :: x276 :: x277 :: []), defers := [] } w) :
    Code.wp Try.prog B (Exit.then K Q') { tmps := List.toArray (x0 :: x1 :: x2 :: x3 :: x4 :: x5 :: x6 :: x7 :: (.slice A N c) :: x9 :: x10 :: (.int .i64 X) :: x12 :: x13 :: (.int .i64 (-1)) :: (.int .i64 N1) :: (.int .i64 0) :: x17 :: x18 :: x19 :: x20 :: x21 :: x22 :: x23 :: x24 :: x25 :: x26 :: x27 :: x28 :: x29 :: x30 :: x31 :: x32 :: x33 :: x34 :: x35 :: x36 :: x37 :: x38 :: x39 :: x40 :: x41 :: x42 :: x43 :: x44 :: x45 :: x46 :: x47 :: x48 :: x49 :: x50 :: x51 :: x52 :: x53 :: x54 :: x55 :: x56 :: x57 :: x58 :: x59 :: x60 :: x61 :: x62 :: x63 :: x64 :: x65 :: x66 :: x67 :: x68 :: x69 :: x70 :: x71 :: x72 :: x73 :: x74 :: x75 :: x76 :: x77 :: x78 :: x79 :: x80 :: x81 :: x82 :: x83 :: x84 :: x85 :: x86 :: x87 :: x88 :: x89 :: x90 :: x91 :: x92 :: x93 :: x94 :: x95 :: x96 :: x97 :: x98 :: x99 :: x100 :: x101 :: x102 :: x103 :: x104 :: x105 :: x106 :: x107 :: x108 :: x109 :: x110 :: x111 :: x112 :: x113 :: x114 :: x115 :: x116 :: x117 :: x118 :: x119 :: x120 :: x121 :: x122 :: x123 :: x124 :: x125 :: x126 :: x127 :: x128 :: x129 :: x130 :: x131 :: x132 :: x133 :: x134 :: x135 :: x136 :: x137 :: x138 :: x139 :: x140 :: x141 :: x142 :: x143 :: x144 :: x145 :: x146 :: x147 :: x148 :: x149 :: x150 :: x151 :: x152 :: x153 :: x154 :: x155 :: x156 :: x157 :: x158 :: x159 :: x160 :: x161 :: x162 :: x163 :: x164 :: x165 :: x166 :: x167 :: x168 :: x169 :: x170 :: x171 :: x172 :: x173 :: x174 :: x175 :: x176 :: x177 :: x178 :: x179 :: x180 :: x181 :: x182 :: x183 :: x184 :: x185 :: x186 :: x187 :: x188 :: x189 :: x190 :: x191 :: x192 :: x193 :: x194 :: x195 :: x196 :: x197 :: x198 :: x199 :: x200 :: x201 :: x202 :: x203 :: x204 :: x205 :: x206 :: x207 :: x208 :: x209 :: x210 :: x211 :: x212 :: x213 :: x214 :: x215 :: x216 :: x217 :: x218 :: x219 :: x220 :: x221 :: x222 :: x223 :: x224 :: x225 :: x226 :: x227 :: x228 :: x229 :: x230 :: x231 :: x232 :: x233 :: x234 :: x235 :: x236 :: x237 :: x238 :: x239 :: x240 :: x241 :: x242 :: x243 :: x244 :: x245 :: x246 :: x247 :: x248 :: x249 :: x250 :: x251 :: x252 :: x253 :: x254 :: x255 :: x256 :: x257 :: x258 :: x259 :: x260 :: x261 :: x262 :: x263 :: x264 :: x265 :: x266 :: x267 :: x268 :: x269 :: x270 :: x271 :: x272 :: x273 :: x274 :: x275 :: x276 :: x277 :: []), defers := [] } w := by
  have HF := hide hK
  clear hK
  subst hB
  conv => arg 2; whnf
  have Hs := hide hs
  clear hs
  go_wp2
  go_loopw [16, 14, 15] (fun vi vf vr wr => ∃ (k : Nat) (f1 f2 : Int), k ≤ N ∧ vi = .int .i64 k ∧ vf = .int .i64 f1 ∧ vr = .int .i64 f2 ∧ Hid (Fst φ X N1 k f1 f2) ∧ wr = w) (fun vi _ _ _ => N - (intOf vi).toNat)
  case atStart => exact ⟨0, -1, N1, Nat.zero_le _, rfl, rfl, rfl, Fst.zero φ X N1, rfl⟩
  case round =>
    obtain ⟨k, f1, f2, hk, rfl, rfl, rfl, HS, rfl⟩ := hrel
    by_cases hlt : k < N
    · obtain ⟨b, o, A', c', rfl, d0, d1, d2⟩ := lay_nth Hs.out (Below.refl _ _) hlt
      have hkw : IntKind.i64.wrap ((k : Int) + 1) = (k : Int) + 1 := IntWalk.i64_in _ (by omega)
      by_cases h1 : X ≤ (φ k).pos
      · by_cases h2 : (φ k).pos < f2
        · have HS2 := hide (HS.out.yes ⟨h1, h2⟩)
          obtain ⟨z, hz⟩ : ∃ z, z = (φ k).pos := ⟨_, rfl⟩
          rw [← hz] at d0 h1 h2 HS2
          have b1 : decide (X ≤ z) = true := decide_eq_true h1
          have b2 : decide (z < f2) = true := decide_eq_true h2
          clear hz h1 h2 d1 d2
          go_wp2
          exact ⟨⟨k + 1, k, z, by omega, by go_num, rfl, rfl, HS2, trivial⟩, by simp [intOf]; omega⟩
        · have HS2 := hide (HS.out.no (fun h => h2 h.2))
          obtain ⟨z, hz⟩ : ∃ z, z = (φ k).pos := ⟨_, rfl⟩
          rw [← hz] at d0 h1 h2
          have b1 : decide (X ≤ z) = true := decide_eq_true h1
          have b2 : decide (z < f2) = false := decide_eq_false h2
          clear hz h1 h2 d1 d2
          go_wp2
          exact ⟨⟨k + 1, f1, f2, by omega, by go_num, rfl, rfl, HS2, trivial⟩, by simp [intOf]; omega⟩
      · have HS2 := hide (HS.out.no (fun h => h1 h.1))
        obtain ⟨z, hz⟩ : ∃ z, z = (φ k).pos := ⟨_, rfl⟩
        rw [← hz] at d0 h1
        have b1 : decide (X ≤ z) = false := decide_eq_false h1
        clear hz h1 d1 d2
        go_wp2
        exact ⟨⟨k + 1, f1, f2, by omega, by go_num, rfl, rfl, HS2, trivial⟩, by simp [intOf]; omega⟩
    · obtain rfl : k = N := by omega
      clear hlt
      go_wp2
      exact HF.out _ _ _ _ _ _ _ _ _ _ _ _ _ _ _ _ _ _ _ _ _ _ _ _ _ _ _ _ _ _ HS.out

theorem drewN_row {w wv : World} {n q : Nat} {t : TypeId} {cs : List Value} (h : w.drewN n = wv) (hr : Row w q t cs) : Row wv q t cs := by subst h; exact hr.drewN n
theorem drewN_oth {S : Nat → Prop} {A w wv : World} {n : Nat} (h : w.drewN n = wv) (hr : Oth S A w) : Oth S A wv := by subst h; exact hr.drewN n
theorem accE_bd {φ : Nat → Ed} {C : Nat → Bool} (p u : Int) (hp : p ≤ u) : ∀ n, (∀ i, i < n → (φ i).pos + (φ i).del ≤ u) → accE φ C p n ≤ u
  | n, h => accE_le p u hp n fun i hi _ => h i hi
theorem accA_bd {φ : Nat → Ed} {C : Nat → Bool} {m : Nat} : ∀ n, (∀ i, i < n → 0 ≤ (φ i).del ∧ (φ i).del ≤ 1000000 ∧ (φ i).ins.length ≤ 1000000) → -(n * 1000000 : Int) ≤ accA φ C m n ∧ accA φ C m n ≤ n * 1000000
  | 0, _ => by simp [accA]
  | n + 1, h => by
    have h1 := accA_bd (C := C) (m := m) n fun i hi => h i (by omega)
    have h2 := h n (by omega)
    rw [accA]
    split <;> omega
theorem accB_bd {φ : Nat → Ed} {C : Nat → Bool} {m : Nat} : ∀ n, (∀ i, i < n → 0 ≤ (φ i).del ∧ (φ i).del ≤ 1000000 ∧ (φ i).ins.length ≤ 1000000) → -(n * 1000000 : Int) ≤ accB φ C m n ∧ accB φ C m n ≤ n * 1000000
  | 0, _ => by simp [accB]
  | n + 1, h => by
    have h1 := accB_bd (C := C) (m := m) n fun i hi => h i (by omega)
    have h2 := h n (by omega)
    rw [accB]
    split <;> omega
set_option maxRecDepth 100000 in
set_option maxHeartbeats 4000000 in
theorem rg_accs {A A7 : Option Addr} {N c n7 c7 gm cm f q : Nat} {p kd k1 k2 x y : Int} {φ : Nat → Ed} {C : Nat → Bool} {ρ : Nat → Int} {w0 : World} {w : World} {B : Code} {K : Act → World → Prop} {Q' : Exit → Act → World → Prop} (x0 x1 x2 x3 x4 x5 x6 x10 x11 x12 x13 x15 x16 x17 x23 x24 x25 x26 x27 x28 x29 x30 x31 x32 x33 x34 x35 x36 x37 x38 x39 x40 x41 x42 x43 x44 x45 x46 x47 x48 x49 x50 x51 x52 x53 x54 x55 x56 x57 x58 x59 x60 x61 x62 x63 x64 x65 x66 x67 x68 x69 x70 x71 x72 x73 x74 x75 x76 x77 x78 x79 x80 x81 x82 x83 x84 x85 x86 x87 x88 x89 x90 x91 x92 x93 x94 x95 x96 x97 x98 x99 x100 x101 x102 x103 x104 x105 x106 x107 x108 x109 x110 x111 x112 x113 x114 x115 x116 x117 x118 x119 x120 x121 x122 x123 x124 x125 x126 x127 x128 x129 x130 x131 x132 x133 x134 x135 x136 x137 x138 x139 x140 x141 x142 x143 x144 x145 x146 x147 x148 x149 x150 x151 x152 x153 x154 x155 x156 x157 x158 x159 x160 x161 x162 x163 x164 x165 x166 x167 x168 x169 x170 x171 x172 x173 x174 x175 x176 x177 x178 x179 x180 x181 x182 x183 x184 x185 x186 x187 x188 x189 x190 x191 x192 x193 x194 x195 x196 x197 x198 x199 x200 x201 x202 x203 x204 x205 x206 x207 x208 x209 x210 x211 x212 x213 x214 x215 x216 x217 x218 x219 x220 x221 x222 x223 x224 x225 x226 x227 x228 x229 x230 x231 x232 x233 x234 x235 x236 x237 x238 x239 x240 x241 x242 x243 x244 x245 x246 x247 x248 x249 x250 x251 x252 x253 x254 x255 x256 x257 x258 x259 x260 x261 x262 x263 x264 x265 x266 x267 x268 x269 x270 x271 x272 x273 x274 x275 x276 x277 : Value)
    (hB : B = (findB 4 (Try.f46.body.getD .skip)).getD .skip) (hs : Es w0 A c (lay N φ)) (hb : Below w0.heap.size w0 w) (hN : N ≤ 2000) (hm : ∀ i, i < N → w.cell? ⟨gm, i, none⟩ = some (.int .i64 (ρ i))) (hgm : gm < w0.heap.size) (hq : w0.heap.size ≤ q) (hf : f < N) (hC : ∀ i, i < N → (ρ i = ρ f ↔ C i = true))
    (hsm : ∀ i, i < N → -1 ≤ (φ i).pos ∧ 0 ≤ (φ i).del ∧ (φ i).pos + (φ i).del ≤ 1000000 ∧ (φ i).del ≤ 1000000 ∧ (φ i).ins.length ≤ 1000000) (hp : 0 ≤ p ∧ p ≤ 1000000) (hr : Row w q tR [.int .i64 kd, .int .i64 k1, .int .i64 k2, .int .i64 x, .int .i64 0, .int .i64 y, .int .i64 0])
    (hK : ∀ (u117 u118 u119 u120 u121 u122 u123 u124 u125 u126 u127 u128 u129 u130 u131 u132 u133 u134 u135 u136 u137 u138 u139 u140 u141 u142 u143 u144 u145 u146 u147 u148 u149 u150 u151 u152 u153 u154 u155 u156 u157 u158 u159 u160 u161 u162 u163 u164 u165 u166 u167 u168 u169 u170 u171 u172 u173 u174 u175 u176 u177 u178 u179 u180 u181 u182 u183 u184 : Value) (wx : World), Row wx q tR [.int .i64 kd, .int .i64 k1, .int .i64 k2, .int .i64 x, .int .i64 (accA φ C n7 N), .int .i64 y, .int .i64 (accB φ C n7 N)] → Oth (fun k => k = q) w wx → K { tmps := List.toArray (x0 :: x1 :: x2 :: x3 :: x4 :: x5 :: x6 :: (.slice A7 n7 c7) :: (.slice A N c) :: (.slice (some ⟨gm, 0, none⟩) N cm) :: x10 :: x11 :: x12 :: x13 :: (.int .i64 f) :: x15 :: x16 :: x17 :: (.pointer (some ⟨q, 0, none⟩)) :: (.int .i64 (accE φ C p N)) :: (.bool (acc1 C n7 N)) :: (.bool (acc2 C n7 N)) :: (.int .i64 N) :: x23 :: x24 :: x25 :: x26 :: x27 :: x28 :: x29 :: x30 :: x31 :: x32 :: x33 :: x34 :: x35 :: x36 :: x37 :: x38 :: x39 :: x40 :: x41 :: x42 :: x43 :: x44 :: x45 :: x46 :: x47 :: x48 :: x49 :: x50 :: x51 :: x52 :: x53 :: x54 :: x55 :: x56 :: x57 :: x58 :: x59 :: x60 :: x61 :: x62 :: x63 :: x64 :: x65 :: x66 :: x67 :: x68 :: x69 :: x70 :: x71 :: x72 :: x73 :: x74 :: x75 :: x76 :: x77 :: x78 :: x79 :: x80 :: x81 :: x82 :: x83 :: x84 :: x85 :: x86 :: x87 :: x88 :: x89 :: x90 :: x91 :: x92 :: x93 :: x94 :: x95 :: x96 :: x97 :: x98 :: x99 :: x100 :: x101 :: x102 :: x103 :: x104 :: x105 :: x106 :: x107 :: x108 :: x109 :: x110 :: x111 :: x112 :: x113 :: x114 :: x115 :: x116 :: (u117) :: (u118) :: (u119) :: (u120) :: (u121) :: (u122) :: (u123) :: (u124) :: (u125) :: (u126) :: (u127) :: (u128) :: (u129) :: (u130) :: (u131) :: (u132) :: (u133) :: (u134) :: (u135) :: (u136) :: (u137) :: (u138) :: (u139) :: (u140) :: (u141) :: (u142) :: (u143) :: (u144) :: (u145) :: (u146) :: (u147) :: (u148) :: (u149) :: (u150) :: (u151) :: (u152) :: (u153) :: (u154) :: (u155) :: (u156) :: (u157) :: (u158) :: (u159) :: (u160) :: (u161) :: (u162) :: (u163) :: (u164) :: (u165) :: (u166) :: (u167) :: (u168) :: (u169) :: (u170) :: (u171) :: (u172) :: (u173) :: (u174) :: (u175) :: (u176) :: (u177) :: (u178) :: (u179) :: (u180) :: (u181) :: (u182) :: (u183) :: (u184) :: x185 :: x186 :: x187 :: x188 :: x189 :: x190 :: x191 :: x192 :: x193 :: x194 :: x195 :: x196 :: x197 :: x198 :: x199 :: x200 :: x201 :: x202 :: x203 :: x204 :: x205 :: x206 :: x207 :: x208 :: x209 :: x210 :: x211 :: x212 :: x213 :: x214 :: x215 :: x216 :: x217 :: x218 :: x219 :: x220 :: x221 :: x222 :: x223 :: x224 :: x225 :: x226 :: x227 :: x228 :: x229 :: x230 :: x231 :: x232 :: x233 :: x234 :: x235 :: x236 :: x237 :: x238 :: x239 :: x240 :: x241 :: x242 :: x243 :: x244 :: x245 :: x246 :: x247 :: x248 :: x249 :: x250 :: x251 :: x252 :: x253 :: x254 :: x255 :: x256 :: x257 :: x258 :: x259 :: x260 :: x261 :: x262 :: x263 :: x264 :: x265 :: x266 :: x267 :: x268 :: x269 :: x270 :: x271 :: x272 :: x273 :: x274 :: x275 :: x276 :: x277 :: []), defers := [] } wx) :
    Code.wp Try.prog B (Exit.then K Q') { tmps := List.toArray (x0 :: x1 :: x2 :: x3 :: x4 :: x5 :: x6 :: (.slice A7 n7 c7) :: (.slice A N c) :: (.slice (some ⟨gm, 0, none⟩) N cm) :: x10 :: x11 :: x12 :: x13 :: (.int .i64 f) :: x15 :: x16 :: x17 :: (.pointer (some ⟨q, 0, none⟩)) :: (.int .i64 p) :: (.bool false) :: (.bool false) :: (.int .i64 0) :: x23 :: x24 :: x25 :: x26 :: x27 :: x28 :: x29 :: x30 :: x31 :: x32 :: x33 :: x34 :: x35 :: x36 :: x37 :: x38 :: x39 :: x40 :: x41 :: x42 :: x43 :: x44 :: x45 :: x46 :: x47 :: x48 :: x49 :: x50 :: x51 :: x52 :: x53 :: x54 :: x55 :: x56 :: x57 :: x58 :: x59 :: x60 :: x61 :: x62 :: x63 :: x64 :: x65 :: x66 :: x67 :: x68 :: x69 :: x70 :: x71 :: x72 :: x73 :: x74 :: x75 :: x76 :: x77 :: x78 :: x79 :: x80 :: x81 :: x82 :: x83 :: x84 :: x85 :: x86 :: x87 :: x88 :: x89 :: x90 :: x91 :: x92 :: x93 :: x94 :: x95 :: x96 :: x97 :: x98 :: x99 :: x100 :: x101 :: x102 :: x103 :: x104 :: x105 :: x106 :: x107 :: x108 :: x109 :: x110 :: x111 :: x112 :: x113 :: x114 :: x115 :: x116 :: x117 :: x118 :: x119 :: x120 :: x121 :: x122 :: x123 :: x124 :: x125 :: x126 :: x127 :: x128 :: x129 :: x130 :: x131 :: x132 :: x133 :: x134 :: x135 :: x136 :: x137 :: x138 :: x139 :: x140 :: x141 :: x142 :: x143 :: x144 :: x145 :: x146 :: x147 :: x148 :: x149 :: x150 :: x151 :: x152 :: x153 :: x154 :: x155 :: x156 :: x157 :: x158 :: x159 :: x160 :: x161 :: x162 :: x163 :: x164 :: x165 :: x166 :: x167 :: x168 :: x169 :: x170 :: x171 :: x172 :: x173 :: x174 :: x175 :: x176 :: x177 :: x178 :: x179 :: x180 :: x181 :: x182 :: x183 :: x184 :: x185 :: x186 :: x187 :: x188 :: x189 :: x190 :: x191 :: x192 :: x193 :: x194 :: x195 :: x196 :: x197 :: x198 :: x199 :: x200 :: x201 :: x202 :: x203 :: x204 :: x205 :: x206 :: x207 :: x208 :: x209 :: x210 :: x211 :: x212 :: x213 :: x214 :: x215 :: x216 :: x217 :: x218 :: x219 :: x220 :: x221 :: x222 :: x223 :: x224 :: x225 :: x226 :: x227 :: x228 :: x229 :: x230 :: x231 :: x232 :: x233 :: x234 :: x235 :: x236 :: x237 :: x238 :: x239 :: x240 :: x241 :: x242 :: x243 :: x244 :: x245 :: x246 :: x247 :: x248 :: x249 :: x250 :: x251 :: x252 :: x253 :: x254 :: x255 :: x256 :: x257 :: x258 :: x259 :: x260 :: x261 :: x262 :: x263 :: x264 :: x265 :: x266 :: x267 :: x268 :: x269 :: x270 :: x271 :: x272 :: x273 :: x274 :: x275 :: x276 :: x277 :: []), defers := [] } w := by
  have HF := hide hK
  clear hK
  subst hB
  conv => arg 2; whnf
  have Hs := hide hs
  have Hb0 := hide hb
  have Hm := hide hm
  have Hsm := hide hsm
  have HC := hide hC
  have hm0 := hm f hf
  have Hq := hide hq
  have Hgm := hide hgm
  clear hs hb hm hsm hC hq hgm
  go_wp2
  go_loopw [22, 19, 20, 21] (fun vi ve v1 v2 wr => ∃ k : Nat, k ≤ N ∧ vi = .int .i64 k ∧ ve = .int .i64 (accE φ C p k) ∧ v1 = .bool (acc1 C n7 k) ∧ v2 = .bool (acc2 C n7 k) ∧ Hid (Row wr q tR [.int .i64 kd, .int .i64 k1, .int .i64 k2, .int .i64 x, .int .i64 (accA φ C n7 k), .int .i64 y, .int .i64 (accB φ C n7 k)]) ∧ Hid (Oth (fun k => k = q) w wr)) (fun vi _ _ _ _ => N - (intOf vi).toNat)
  case atStart => exact ⟨0, Nat.zero_le _, rfl, rfl, rfl, rfl, hide hr, hide (Oth.refl _ _)⟩
  case round =>
    obtain ⟨k, hk, rfl, rfl, rfl, rfl, HR, HO⟩ := hrel
    have Hb := hide (HO.out.below Hb0.out Hb0.out.size (fun j hj e => by have := Hq.out; omega))
    have hgw : gm < w.heap.size := Nat.lt_of_lt_of_le Hgm.out Hb0.out.size
    have hgq : gm ≠ q := by have := Hq.out; have := Hgm.out; omega
    by_cases hlt : k < N
    · obtain ⟨b, o, A', c', rfl, d0, d1, d2⟩ := lay_nth Hs.out Hb.out hlt
      have hkw : IntKind.i64.wrap ((k : Int) + 1) = (k : Int) + 1 := IntWalk.i64_in _ (by omega)
      have mk0 := (World.cell?_of_block (a := ⟨gm, k, none⟩) (HO.out.block gm hgw hgq)).trans (Hm.out k hlt)
      have mf0 := (World.cell?_of_block (a := ⟨gm, f, none⟩) (HO.out.block gm hgw hgq)).trans hm0
      have hbE := accE_bd (φ := φ) (C := C) p 1000000 hp.2 k fun i hi => (Hsm.out i (by omega)).2.2.1
      have hgE := accE_ge (φ := φ) (C := C) p k
      have hbA := accA_bd (φ := φ) (C := C) (m := n7) k fun i hi => ⟨(Hsm.out i (by omega)).2.1, (Hsm.out i (by omega)).2.2.2⟩
      have hbB := accB_bd (φ := φ) (C := C) (m := n7) k fun i hi => ⟨(Hsm.out i (by omega)).2.1, (Hsm.out i (by omega)).2.2.2⟩
      have hsk := Hsm.out k hlt
      have HE1 := hide (show accE φ C p (k + 1) = if C k then max (accE φ C p k) ((φ k).pos + (φ k).del) else accE φ C p k from rfl)
      have HA1 := hide (show accA φ C n7 (k + 1) = if C k = true ∧ k < n7 then accA φ C n7 k + (φ k).ins.length - (φ k).del else accA φ C n7 k from rfl)
      have HB1 := hide (show accB φ C n7 (k + 1) = if C k = true ∧ ¬ k < n7 then accB φ C n7 k + (φ k).ins.length - (φ k).del else accB φ C n7 k from rfl)
      have H11 := hide (show acc1 C n7 (k + 1) = if C k = true ∧ k < n7 then true else acc1 C n7 k from rfl)
      have H21 := hide (show acc2 C n7 (k + 1) = if C k = true ∧ ¬ k < n7 then true else acc2 C n7 k from rfl)
      have hCk := HC.out k hlt
      obtain ⟨E1, h'⟩ : ∃ z, z = accE φ C p (k + 1) := ⟨_, rfl⟩
      rw [← h'] at HE1
      have HE1q := hide h'
      clear h'
      obtain ⟨A1, h'⟩ : ∃ z, z = accA φ C n7 (k + 1) := ⟨_, rfl⟩
      rw [← h'] at HA1
      have HA1q := hide h'
      clear h'
      obtain ⟨B1, h'⟩ : ∃ z, z = accB φ C n7 (k + 1) := ⟨_, rfl⟩
      rw [← h'] at HB1
      have HB1q := hide h'
      clear h'
      obtain ⟨t1', h'⟩ : ∃ z, z = acc1 C n7 (k + 1) := ⟨_, rfl⟩
      rw [← h'] at H11
      have H11q := hide h'
      clear h'
      obtain ⟨t2', h'⟩ : ∃ z, z = acc2 C n7 (k + 1) := ⟨_, rfl⟩
      rw [← h'] at H21
      have H21q := hide h'
      clear h'
      generalize accE φ C p k = E0 at *
      generalize accA φ C n7 k = A0 at *
      generalize accB φ C n7 k = B0 at *
      generalize acc1 C n7 k = t1 at *
      generalize acc2 C n7 k = t2 at *
      obtain ⟨zp, hzp⟩ : ∃ z, z = (φ k).pos := ⟨_, rfl⟩
      obtain ⟨zd, hzd⟩ : ∃ z, z = (φ k).del := ⟨_, rfl⟩
      obtain ⟨zi, hzi⟩ : ∃ z, z = (φ k).ins.length := ⟨_, rfl⟩
      rw [← hzp] at d0 hsk
      rw [← hzd] at d1 hsk
      rw [← hzi] at d2 hsk
      rw [← hzp, ← hzd] at HE1
      rw [← hzd, ← hzi] at HA1 HB1
      obtain ⟨r0, hr0⟩ : ∃ z, z = ρ k := ⟨_, rfl⟩
      obtain ⟨r1, hr1⟩ : ∃ z, z = ρ f := ⟨_, rfl⟩
      rw [← hr0] at mk0 hCk
      rw [← hr1] at mf0 hCk
      clear hzp hzd hzi hr0 hr1
      by_cases hc : C k = true
      · have hrr : (r0 != r1) = false := by rw [bne_eq_false_iff_eq]; exact hCk.2 hc
        obtain ⟨zz, hzz⟩ : ∃ z, z = zp + zd := ⟨_, rfl⟩
        have hE1 : E1 = max E0 zz := by rw [HE1.out, if_pos hc, hzz]
        have hws : IntKind.i64.wrap (zp + zd) = zz := by rw [hzz]; exact IntWalk.i64_in _ (by omega)
        have hmx : (if E0 < zz then zz else E0) = E1 := by rw [hE1]; split <;> omega
        have hmx2 : (if zz < E0 then E0 else zz) = E1 := by rw [hE1]; split <;> omega
        clear hE1 hzz hCk
        by_cases h7 : k < n7
        · have b7 : decide ((k : Int) < (n7 : Int)) = true := decide_eq_true (by omega)
          have b70 : decide (k < n7) = true := decide_eq_true h7
          have hA : A1 = A0 + zi - zd := by rw [HA1.out, if_pos ⟨hc, h7⟩]
          have hB : B1 = B0 := by rw [HB1.out, if_neg (fun h => h.2 h7)]
          have h1 : t1' = true := by rw [H11.out, if_pos ⟨hc, h7⟩]
          have h2 : t2' = t2 := by rw [H21.out, if_neg (fun h => h.2 h7)]
          have wA : IntKind.i64.wrap (A0 + (zi : Int)) = A0 + zi := IntWalk.i64_in _ (by omega)
          have wA2 : IntKind.i64.wrap (A0 + (zi : Int) - zd) = A1 := by rw [hA]; exact IntWalk.i64_in _ (by omega)
          subst hB h1 h2
          clear hA hc hsk HE1 HA1 HB1 H11 H21 hbE hgE hbA hbB
          go_wp2
          go_quiet (fail)
          go_wp2
          go_quiet (fail)
          go_wp2
          generalize hwv : World.drewN wr _ = wv
          have hR := drewN_row hwv HR.out
          have hO := drewN_oth hwv HO.out
          have v1 : wv.cell? ⟨b, o + k * 3 + 1, none⟩ = some (.int .i64 zd) := by rw [← hwv]; exact d1
          have v2 : wv.cell? ⟨b, o + k * 3 + 2, none⟩ = some (.slice A' zi c') := by rw [← hwv]; exact d2
          have q4 := hR.cell 4
          have qf := hR.free 4
          simp only [List.getElem?_cons_zero, List.getElem?_cons_succ] at q4
          have HR2 := hide hR
          have HO2 := hide hO
          clear hwv hR hO d0 d1 d2
          refine Rc.wp_region_ord (fun w' => w'.cell? ⟨q, 4, none⟩ = some (.int .i64 A0) ∧ w'.cell? ⟨b, o + k * 3 + 1, none⟩ = some (.int .i64 zd) ∧ w'.cell? ⟨b, o + k * 3 + 2, none⟩ = some (.slice A' zi c')) [(0, true), (1, true), (2, true), (3, true), (4, true), (5, true), (6, true), (7, true), (8, true), (9, true), (10, true), (11, true), (12, true), (13, true), (14, true), (15, true), (16, true), (17, true), (18, false)] (by kernel_rfl) (by kernel_rfl) ?_
          simp only [Rg.pick, List.map_cons, List.map_nil, List.getD_cons_zero, List.getD_cons_succ]
          iterate 18 (refine Rc.ord_quiet (v := ?_) rfl (fun w' hS => ?_) ⟨q4, v1, v2⟩ ?_; rotate_left; (obtain ⟨s0, s1, s2⟩ := hS; go_simp; with_reducible rfl); simp only [Act.put, List.setIfInBounds_toArray, List.set_cons_succ, List.set_cons_zero])
          refine Rc.ord_loud rfl (fun K hK => ?_)
          go_simp
          refine hK _ _ (fun hf => absurd (show Rc.sink _ 18 = true from by kernel_rfl) (by rw [hf]; decide)) ?_
          clear hK K
          refine Rc.ord_nil ?_
          have HR3 := hide ((HR2.out.put 4 (.int .i64 A1)).drew)
          have HO3 := hide ((HO2.out.put (g := q) (i := 4) (.inl rfl) (.int .i64 A1)).drew)
          clear q4 qf v1 v2
          go_wp2
          exact ⟨⟨k + 1, by omega, by go_num, by rw [← HE1q.out], by rw [← H11q.out], by rw [← H21q.out], by rw [← HA1q.out, ← HB1q.out]; exact HR3, HO3⟩, by simp [intOf]; omega⟩
        · have b7 : decide ((k : Int) < (n7 : Int)) = false := decide_eq_false (by omega)
          have b70 : decide (k < n7) = false := decide_eq_false h7
          have hA : A1 = A0 := by rw [HA1.out, if_neg (fun h => h7 h.2)]
          have hB : B1 = B0 + zi - zd := by rw [HB1.out, if_pos ⟨hc, h7⟩]
          have h1 : t1' = t1 := by rw [H11.out, if_neg (fun h => h7 h.2)]
          have h2 : t2' = true := by rw [H21.out, if_pos ⟨hc, h7⟩]
          have wA : IntKind.i64.wrap (B0 + (zi : Int)) = B0 + zi := IntWalk.i64_in _ (by omega)
          have wA2 : IntKind.i64.wrap (B0 + (zi : Int) - zd) = B1 := by rw [hB]; exact IntWalk.i64_in _ (by omega)
          subst hA h1 h2
          clear hB hc hsk HE1 HA1 HB1 H11 H21 hbE hgE hbA hbB
          go_wp2
          go_quiet (fail)
          go_wp2
          go_quiet (fail)
          go_wp2
          generalize hwv : World.drewN wr _ = wv
          have hR := drewN_row hwv HR.out
          have hO := drewN_oth hwv HO.out
          have v1 : wv.cell? ⟨b, o + k * 3 + 1, none⟩ = some (.int .i64 zd) := by rw [← hwv]; exact d1
          have v2 : wv.cell? ⟨b, o + k * 3 + 2, none⟩ = some (.slice A' zi c') := by rw [← hwv]; exact d2
          have q4 := hR.cell 6
          have qf := hR.free 6
          simp only [List.getElem?_cons_zero, List.getElem?_cons_succ] at q4
          have HR2 := hide hR
          have HO2 := hide hO
          clear hwv hR hO d0 d1 d2
          refine Rc.wp_region_ord (fun w' => w'.cell? ⟨q, 6, none⟩ = some (.int .i64 B0) ∧ w'.cell? ⟨b, o + k * 3 + 1, none⟩ = some (.int .i64 zd) ∧ w'.cell? ⟨b, o + k * 3 + 2, none⟩ = some (.slice A' zi c')) [(0, true), (1, true), (2, true), (3, true), (4, true), (5, true), (6, true), (7, true), (8, true), (9, true), (10, true), (11, true), (12, true), (13, true), (14, true), (15, true), (16, true), (17, true), (18, false)] (by kernel_rfl) (by kernel_rfl) ?_
          simp only [Rg.pick, List.map_cons, List.map_nil, List.getD_cons_zero, List.getD_cons_succ]
          iterate 18 (refine Rc.ord_quiet (v := ?_) rfl (fun w' hS => ?_) ⟨q4, v1, v2⟩ ?_; rotate_left; (obtain ⟨s0, s1, s2⟩ := hS; go_simp; with_reducible rfl); simp only [Act.put, List.setIfInBounds_toArray, List.set_cons_succ, List.set_cons_zero])
          refine Rc.ord_loud rfl (fun K hK => ?_)
          go_simp
          refine hK _ _ (fun hf => absurd (show Rc.sink _ 18 = true from by kernel_rfl) (by rw [hf]; decide)) ?_
          clear hK K
          refine Rc.ord_nil ?_
          have HR3 := hide ((HR2.out.put 6 (.int .i64 B1)).drew)
          have HO3 := hide ((HO2.out.put (g := q) (i := 6) (.inl rfl) (.int .i64 B1)).drew)
          clear q4 qf v1 v2
          go_wp2
          exact ⟨⟨k + 1, by omega, by go_num, by rw [← HE1q.out], by rw [← H11q.out], by rw [← H21q.out], by rw [← HA1q.out, ← HB1q.out]; exact HR3, HO3⟩, by simp [intOf]; omega⟩
      · have hrr : (r0 != r1) = true := by rw [bne_iff_ne]; exact fun e => hc (hCk.1 e)
        have h1 : E1 = E0 := by rw [HE1.out, if_neg hc]
        have h2 : A1 = A0 := by rw [HA1.out, if_neg (fun h => hc h.1)]
        have h3 : B1 = B0 := by rw [HB1.out, if_neg (fun h => hc h.1)]
        have h4 : t1' = t1 := by rw [H11.out, if_neg (fun h => hc h.1)]
        have h5 : t2' = t2 := by rw [H21.out, if_neg (fun h => hc h.1)]
        subst h1 h2 h3 h4 h5
        clear hCk hc hsk HE1 HA1 HB1 H11 H21 hbE hgE hbA hbB d0 d1 d2
        go_wp2
        go_quiet (fail)
        go_wp2
        exact ⟨⟨k + 1, by omega, by go_num, by rw [← HE1q.out], by rw [← H11q.out], by rw [← H21q.out], by rw [← HA1q.out, ← HB1q.out]; exact hide (HR.out.drewN _), hide (HO.out.drewN _)⟩, by simp [intOf]; omega⟩
    · obtain rfl : k = N := by omega
      clear hlt
      go_wp2
      exact HF.out _ _ _ _ _ _ _ _ _ _ _ _ _ _ _ _ _ _ _ _ _ _ _ _ _ _ _ _ _ _ _ _ _ _ _ _ _ _ _ _ _ _ _ _ _ _ _ _ _ _ _ _ _ _ _ _ _ _ _ _ _ _ _ _ _ _ _ _ wr HR.out HO.out

end Go.Proofs.Ytghnieddokhagaa.Al
