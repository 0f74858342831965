/-
  The reference's Regions, piece by piece: its edits are marked; what nobody changed; a cluster's kind.
-/
import Derived.BigQuiet
import Derived.Test.YtghnieddokhagaaJ3
import Derived.Test.YtghnieddokhagaaQJS
namespace Go.Proofs.Ytghnieddokhagaa.Al
open Go Go.RowKit Kt Kg Lw Li Df Kf

/-- two codes, the first one a region, by its number -/
def findS (n : Nat) : Code → Option Code
  | .seq (.region m ops d) b => if m = n then some (.seq (.region m ops d) b) else findS n b
  | .seq a b => (findS n a).or (findS n b)
  | .block _ b => findS n b
  | .loop b => findS n b
  | .cond _ a b => (findS n a).or (findS n b)
  | _ => none
def neg (e : Ed) : Ed := ⟨-1, e.del, e.ins⟩
theorem flat_set {α : Type} (f : α → List Value) (n : Nat) (hf : ∀ a, (f a).length = n) : ∀ (l : List α) (i k : Nat) (a a' : α) (u : Value), l[i]? = some a → k < n → f a' = (f a).set k u → (l.set i a').flatMap f = (l.flatMap f).set (n * i + k) u
  | [], i, k, a, a', u, h, _, _ => by simp at h
  | x :: l, 0, k, a, a', u, h, hk, he => by
    simp at h
    subst h
    rw [List.set_cons_zero, List.flatMap_cons, List.flatMap_cons, he, Nat.mul_zero, Nat.zero_add, List.set_append_left _ _ (by rw [hf]; exact hk)]
  | x :: l, i + 1, k, a, a', u, h, hk, he => by
    rw [List.set_cons_succ, List.flatMap_cons, List.flatMap_cons, flat_set f n hf l i k a a' u (by simpa using h) hk he, List.set_append_right _ _ (by rw [hf, Nat.mul_succ]; omega), hf]
    congr 2
    rw [Nat.mul_succ]; omega
theorem owe_neg {w : World} {B g n c i : Nat} {L : List Ed} (h : OwE w B (.slice (some ⟨g, 0, none⟩) n c) L) (hn : n = L.length) (hi : i < L.length) :
    OwE (w.setCell ⟨g, i * 3, none⟩ (.int .i64 (-1))) B (.slice (some ⟨g, 0, none⟩) n c) (L.set i (neg (L.getD i ⟨0, 0, []⟩))) ∧ w.grownBy (w.setCell ⟨g, i * 3, none⟩ (.int .i64 (-1))) (some g) ∧ w.cell? ⟨g, i * 3, none⟩ = some (.int .i64 (L.getD i ⟨0, 0, []⟩).pos) ∧ w.frozen? ⟨g, i * 3, none⟩ = false := by
  subst hn
  obtain ⟨V, rfl, hr, hin⟩ := h
  rw [List.length_map] at hi
  obtain ⟨x, hVi⟩ : ∃ x, V[i]? = some x := ⟨V[i], List.getElem?_eq_getElem hi⟩
  have hLi : (V.map (·.1)).getD i ⟨0, 0, []⟩ = x.1 := by
    rw [List.getD_eq_getElem?_getD, List.getElem?_map, hVi]; rfl
  have hst := World.ownsRow.stored (cap := c) hr (i * 3) (.int .i64 (-1))
  have hfl := flat_set pairC 3 pairC_len V i 0 x (neg x.1, x.2) (.int .i64 (-1)) hVi (by omega) rfl
  rw [Nat.add_zero, Nat.mul_comm 3 i] at hfl
  rw [hLi]
  refine ⟨⟨V.set i (neg x.1, x.2), by rw [List.map_set], ?_, ?_⟩, hst.2, ?_, World.ownsRow.frozenAt hr _⟩
  · rw [List.length_set, hfl]
    exact hst.1
  · intro p hp
    have key : ∀ (u : Value) (l : Ls), OwT w B tS u l → OwT (w.setCell ⟨g, i * 3, none⟩ (.int .i64 (-1))) B tS u l := by
      intro u l hu
      refine World.ownsRow.kept hu hst.2 ?_
      rcases hu.2 with ⟨rfl, _⟩ | ⟨g1, cap, cur, rfl, _, hgg, _⟩
      · exact .inl rfl
      · right
        intro he
        simp only [Value.ownBlock, Option.some.injEq] at he
        subst he
        rcases hr.2 with ⟨h1, _⟩ | ⟨g', cap', cur', h1, _, hgg', _⟩
        · cases h1
        · injection h1 with h1
          injection h1 with h1
          injection h1 with h1
          subst h1
          rw [hgg] at hgg'
          simp [tS, tE] at hgg'
    rcases List.mem_or_eq_of_mem_set hp with hp | rfl
    · exact key _ _ (hin p hp)
    · exact key _ _ (hin x (List.mem_of_getElem? hVi))
  · rw [World.ownsRow.cellAt hr (i * 3) (by rw [List.length_map]; omega), Nat.mul_comm i 3]
    have := flat_at pairC 3 pairC_len V i 0 x hVi (by omega)
    rw [Nat.add_zero] at this
    rw [this]; rfl
/-- those of a cluster so far, but one, are marked -/
def used (φ : Nat → Ed) (C : Nat → Bool) (f k : Nat) (i : Nat) : Ed := if i < k ∧ C i = true ∧ i ≠ f then neg (φ i) else φ i
theorem used_zero (φ : Nat → Ed) (C : Nat → Bool) (f : Nat) : used φ C f 0 = φ := by
  funext i
  unfold used
  rw [if_neg (fun h => absurd h.1 (Nat.not_lt_zero _))]
theorem used_same {φ : Nat → Ed} {C : Nat → Bool} {f k : Nat} (h : ¬ (C k = true ∧ k ≠ f)) : used φ C f (k + 1) = used φ C f k := by
  funext i
  unfold used
  by_cases hik : i = k
  · subst hik
    rw [if_neg (fun x => h ⟨x.2.1, x.2.2⟩), if_neg (fun x => absurd x.1 (Nat.lt_irrefl _))]
  · by_cases hi : i < k
    · have : i < k + 1 := by omega
      simp [hi, this]
    · have : ¬ i < k + 1 := by omega
      simp [hi, this]
theorem used_more {φ : Nat → Ed} {C : Nat → Bool} {f k : Nat} (h : C k = true ∧ k ≠ f) : used φ C f (k + 1) = fun j => if j = k then neg (used φ C f k k) else used φ C f k j := by
  funext i
  have hk : used φ C f k k = φ k := if_neg fun x => absurd x.1 (Nat.lt_irrefl _)
  rw [hk]
  by_cases hik : i = k
  · subst hik
    rw [if_pos rfl]
    exact if_pos ⟨by omega, h.1, h.2⟩
  · rw [if_neg hik]
    unfold used
    by_cases hi : i < k
    · have : i < k + 1 := by omega
      simp [hi, this]
    · have : ¬ i < k + 1 := by omega
      simp [hi, this]

set_option maxRecDepth 100000 in
set_option maxHeartbeats 4000000 in
theorem rg_used {N g8 c8 gm cm f B0 : Nat} {φ : Nat → Ed} {C : Nat → Bool} {ρ : Nat → Int} {w : World} {B : Code} {K : Act → World → Prop} {Q' : Exit → Act → World → Prop} (x0 x1 x2 x3 x4 x5 x6 x7 x10 x11 x12 x13 x15 x16 x17 x18 x19 x20 x21 x22 x23 x25 x26 x27 x28 x29 x30 x31 x32 x33 x34 x35 x36 x37 x38 x39 x40 x41 x42 x43 x44 x45 x46 x47 x48 x49 x50 x51 x52 x53 x54 x55 x56 x57 x58 x59 x60 x61 x62 x63 x64 x65 x66 x67 x68 x69 x70 x71 x72 x73 x74 x75 x76 x77 x78 x79 x80 x81 x82 x83 x84 x85 x86 x87 x88 x89 x90 x91 x92 x93 x94 x95 x96 x97 x98 x99 x100 x101 x102 x103 x104 x105 x106 x107 x108 x109 x110 x111 x112 x113 x114 x115 x116 x117 x118 x119 x120 x121 x122 x123 x124 x125 x126 x127 x128 x129 x130 x131 x132 x133 x134 x135 x136 x137 x138 x139 x140 x141 x142 x143 x144 x145 x146 x147 x148 x149 x150 x151 x152 x153 x154 x155 x156 x157 x158 x159 x160 x161 x162 x163 x164 x165 x166 x167 x168 x169 x170 x171 x172 x173 x174 x175 x176 x177 x178 x179 x180 x181 x182 x183 x184 x185 x186 x187 x188 x189 x190 x191 x192 x193 x194 x195 x196 x197 x198 x199 x200 x201 x202 x203 x204 x205 x206 x207 x208 x209 x210 x211 x212 x213 x214 x215 x216 x217 x218 x219 x220 x221 x222 x223 x224 x225 x226 x227 x228 x229 x230 x231 x232 x233 x234 x235 x236 x237 x238 x239 x240 x241 x242 x243 x244 x245 x246 x247 x248 x249 x250 x251 x252 x253 x254 x255 x256 x257 x258 x259 x260 x261 x262 x263 x264 x265 x266 x267 x268 x269 x270 x271 x272 x273 x274 x275 x276 x277 : Value)
    (hB : B = (findB 6 (Try.f46.body.getD .skip)).getD .skip) (hs : OwE w B0 (.slice (some ⟨g8, 0, none⟩) N c8) (lay N φ)) (hN : N ≤ 2000) (hm : ∀ i, i < N → w.cell? ⟨gm, i, none⟩ = some (.int .i64 (ρ i))) (hg : gm ≠ g8) (hf : f < N) (hC : ∀ i, i < N → (ρ i = ρ f ↔ C i = true))
    (hK : ∀ (u249 u250 u251 u252 u253 u254 u255 u256 u257 u258 u259 u260 u261 u262 u263 u264 u265 u266 u267 u268 u269 u270 u271 u272 : Value) (wx : World), OwE wx B0 (.slice (some ⟨g8, 0, none⟩) N c8) (lay N (used φ C f N)) → Oth (fun k => k = g8) w wx → K { tmps := List.toArray (x0 :: x1 :: x2 :: x3 :: x4 :: x5 :: x6 :: x7 :: (.slice (some ⟨g8, 0, none⟩) N c8) :: (.slice (some ⟨gm, 0, none⟩) N cm) :: x10 :: x11 :: x12 :: x13 :: (.int .i64 f) :: x15 :: x16 :: x17 :: x18 :: x19 :: x20 :: x21 :: x22 :: x23 :: (.int .i64 N) :: x25 :: x26 :: x27 :: x28 :: x29 :: x30 :: x31 :: x32 :: x33 :: x34 :: x35 :: x36 :: x37 :: x38 :: x39 :: x40 :: x41 :: x42 :: x43 :: x44 :: x45 :: x46 :: x47 :: x48 :: x49 :: x50 :: x51 :: x52 :: x53 :: x54 :: x55 :: x56 :: x57 :: x58 :: x59 :: x60 :: x61 :: x62 :: x63 :: x64 :: x65 :: x66 :: x67 :: x68 :: x69 :: x70 :: x71 :: x72 :: x73 :: x74 :: x75 :: x76 :: x77 :: x78 :: x79 :: x80 :: x81 :: x82 :: x83 :: x84 :: x85 :: x86 :: x87 :: x88 :: x89 :: x90 :: x91 :: x92 :: x93 :: x94 :: x95 :: x96 :: x97 :: x98 :: x99 :: x100 :: x101 :: x102 :: x103 :: x104 :: x105 :: x106 :: x107 :: x108 :: x109 :: x110 :: x111 :: x112 :: x113 :: x114 :: x115 :: x116 :: x117 :: x118 :: x119 :: x120 :: x121 :: x122 :: x123 :: x124 :: x125 :: x126 :: x127 :: x128 :: x129 :: x130 :: x131 :: x132 :: x133 :: x134 :: x135 :: x136 :: x137 :: x138 :: x139 :: x140 :: x141 :: x142 :: x143 :: x144 :: x145 :: x146 :: x147 :: x148 :: x149 :: x150 :: x151 :: x152 :: x153 :: x154 :: x155 :: x156 :: x157 :: x158 :: x159 :: x160 :: x161 :: x162 :: x163 :: x164 :: x165 :: x166 :: x167 :: x168 :: x169 :: x170 :: x171 :: x172 :: x173 :: x174 :: x175 :: x176 :: x177 :: x178 :: x179 :: x180 :: x181 :: x182 :: x183 :: x184 :: x185 :: x186 :: x187 :: x188 :: x189 :: x190 :: x191 :: x192 :: x193 :: x194 :: x195 :: x196 :: x197 :: x198 :: x199 :: x200 :: x201 :: x202 :: x203 :: x204 :: x205 :: x206 :: x207 :: x208 :: x209 :: x210 :: x211 :: x212 :: x213 :: x214 :: x215 :: x216 :: x217 :: x218 :: x219 :: x220 :: x221 :: x222 :: x223 :: x224 :: x225 :: x226 :: x227 :: x228 :: x229 :: x230 :: x231 :: x232 :: x233 :: x234 :: x235 :: x236 :: x237 :: x238 :: x239 :: x240 :: x241 :: x242 :: x243 :: x244 :: x245 :: x246 :: x247 :: x248 :: (u249) :: (u250) :: (u251) :: (u252) :: (u253) :: (u254) :: (u255) :: (u256) :: (u257) :: (u258) :: (u259) :: (u260) :: (u261) :: (u262) :: (u263) :: (u264) :: (u265) :: (u266) :: (u267) :: (u268) :: (u269) :: (u270) :: (u271) :: (u272) :: x273 :: x274 :: x275 :: x276 :: x277 :: []), defers := [] } wx) :
    Code.wp Try.prog B (Exit.then K Q') { tmps := List.toArray (x0 :: x1 :: x2 :: x3 :: x4 :: x5 :: x6 :: x7 :: (.slice (some ⟨g8, 0, none⟩) N c8) :: (.slice (some ⟨gm, 0, none⟩) N cm) :: x10 :: x11 :: x12 :: x13 :: (.int .i64 f) :: x15 :: x16 :: x17 :: x18 :: x19 :: x20 :: x21 :: x22 :: x23 :: (.int .i64 0) :: x25 :: x26 :: x27 :: x28 :: x29 :: x30 :: x31 :: x32 :: x33 :: x34 :: x35 :: x36 :: x37 :: x38 :: x39 :: x40 :: x41 :: x42 :: x43 :: x44 :: x45 :: x46 :: x47 :: x48 :: x49 :: x50 :: x51 :: x52 :: x53 :: x54 :: x55 :: x56 :: x57 :: x58 :: x59 :: x60 :: x61 :: x62 :: x63 :: x64 :: x65 :: x66 :: x67 :: x68 :: x69 :: x70 :: x71 :: x72 :: x73 :: x74 :: x75 :: x76 :: x77 :: x78 :: x79 :: x80 :: x81 :: x82 :: x83 :: x84 :: x85 :: x86 :: x87 :: x88 :: x89 :: x90 :: x91 :: x92 :: x93 :: x94 :: x95 :: x96 :: x97 :: x98 :: x99 :: x100 :: x101 :: x102 :: x103 :: x104 :: x105 :: x106 :: x107 :: x108 :: x109 :: x110 :: x111 :: x112 :: x113 :: x114 :: x115 :: x116 :: x117 :: x118 :: x119 :: x120 :: x121 :: x122 :: x123 :: x124 :: x125 :: x126 :: x127 :: x128 :: x129 :: x130 :: x131 :: x132 :: x133 :: x134 :: x135 :: x136 :: x137 :: x138 :: x139 :: x140 :: x141 :: x142 :: x143 :: x144 :: x145 :: x146 :: x147 :: x148 :: x149 :: x150 :: x151 :: x152 :: x153 :: x154 :: x155 :: x156 :: x157 :: x158 :: x159 :: x160 :: x161 :: x162 :: x163 :: x164 :: x165 :: x166 :: x167 :: x168 :: x169 :: x170 :: x171 :: x172 :: x173 :: x174 :: x175 :: x176 :: x177 :: x178 :: x179 :: x180 :: x181 :: x182 :: x183 :: x184 :: x185 :: x186 :: x187 :: x188 :: x189 :: x190 :: x191 :: x192 :: x193 :: x194 :: x195 :: x196 :: x197 :: x198 :: x199 :: x200 :: x201 :: x202 :: x203 :: x204 :: x205 :: x206 :: x207 :: x208 :: x209 :: x210 :: x211 :: x212 :: x213 :: x214 :: x215 :: x216 :: x217 :: x218 :: x219 :: x220 :: x221 :: x222 :: x223 :: x224 :: x225 :: x226 :: x227 :: x228 :: x229 :: x230 :: x231 :: x232 :: x233 :: x234 :: x235 :: x236 :: x237 :: x238 :: x239 :: x240 :: x241 :: x242 :: x243 :: x244 :: x245 :: x246 :: x247 :: x248 :: x249 :: x250 :: x251 :: x252 :: x253 :: x254 :: x255 :: x256 :: x257 :: x258 :: x259 :: x260 :: x261 :: x262 :: x263 :: x264 :: x265 :: x266 :: x267 :: x268 :: x269 :: x270 :: x271 :: x272 :: x273 :: x274 :: x275 :: x276 :: x277 :: []), defers := [] } w := by
  have HF := hide hK
  clear hK
  subst hB
  conv => arg 2; whnf
  have Hm := hide hm
  have HC := hide hC
  have hm0 := hm f hf
  have hgw : gm < w.heap.size := World.block_lt_of_cell? w ⟨gm, f, none⟩ hm0
  have Hs := hide hs
  have Hgw := hide hgw
  clear hm hC hs hgw
  go_wp2
  go_loopw [24] (fun vi wr => ∃ k : Nat, k ≤ N ∧ vi = .int .i64 k ∧ Hid (OwE wr B0 (.slice (some ⟨g8, 0, none⟩) N c8) (lay N (used φ C f k))) ∧ Hid (Oth (fun k => k = g8) w wr)) (fun vi _ => N - (intOf vi).toNat)
  case atStart => exact ⟨0, Nat.zero_le _, rfl, hide (by rw [used_zero]; exact Hs.out), hide (Oth.refl _ _)⟩
  case round =>
    obtain ⟨k, hk, rfl, HS, HO⟩ := hrel
    by_cases hlt : k < N
    · have hkw : IntKind.i64.wrap ((k : Int) + 1) = (k : Int) + 1 := IntWalk.i64_in _ (by omega)
      have mk0 := (World.cell?_of_block (a := ⟨gm, k, none⟩) (HO.out.block gm Hgw.out hg)).trans (Hm.out k hlt)
      have mf0 := (World.cell?_of_block (a := ⟨gm, f, none⟩) (HO.out.block gm Hgw.out hg)).trans hm0
      have hCk := HC.out k hlt
      obtain ⟨s1, s2, s3, s4⟩ := owe_neg HS.out (i := k) (by rw [lay_len]) (by rw [lay_len]; exact hlt)
      rw [lay_at hlt] at s1 s3
      rw [lay_set] at s1
      obtain ⟨r0, hr0⟩ : ∃ z, z = ρ k := ⟨_, rfl⟩
      obtain ⟨r1, hr1⟩ : ∃ z, z = ρ f := ⟨_, rfl⟩
      rw [← hr0] at mk0 hCk
      rw [← hr1] at mf0 hCk
      generalize (used φ C f k k).pos = zp at *
      have S1 := hide s1
      have S2 := hide s2
      clear hr0 hr1 s1 s2
      by_cases hc : C k = true
      · have hrr : (r0 == r1) = true := by rw [beq_iff_eq]; exact hCk.2 hc
        by_cases hkf : k = f
        · have hff : ((k : Int) != (f : Int)) = false := by rw [bne_eq_false_iff_eq]; omega
          have HU := hide (used_same (φ := φ) (C := C) (f := f) (k := k) (fun h => h.2 hkf))
          clear hkf hc hCk s3 s4
          go_wp2
          go_quiet (fail)
          go_wp2
          exact ⟨⟨k + 1, by omega, by go_num, by rw [HU.out]; exact hide (OwE.drewN HS.out _), hide (HO.out.drewN _)⟩, by simp [intOf]; omega⟩
        · have hff : ((k : Int) != (f : Int)) = true := by rw [bne_iff_ne]; omega
          have HU := hide (used_more (φ := φ) ⟨hc, hkf⟩)
          clear hkf hc hCk
          go_wp2
          go_quiet (fail)
          generalize hwv : World.drewN wr _ = wv
          have t3 : wv.cell? ⟨g8, k * 3, none⟩ = some (.int .i64 zp) := by rw [← hwv]; exact s3
          have t4 : wv.frozen? ⟨g8, k * 3, none⟩ = false := by rw [← hwv]; exact s4
          have T1 : Hid (OwE (wv.setCell ⟨g8, k * 3, none⟩ (.int .i64 (-1))) B0 (.slice (some ⟨g8, 0, none⟩) N c8) (lay N (used φ C f (k + 1)))) := by rw [← hwv, HU.out]; exact S1.out
          have T2 := hide ((drewN_oth hwv HO.out).put (g := g8) (i := k * 3) (.inl rfl) (.int .i64 (-1)))
          clear hwv mk0 mf0 s3 s4
          go_wp2
          exact ⟨⟨k + 1, by omega, by go_num, T1, T2⟩, by simp [intOf]; omega⟩
      · have hrr : (r0 == r1) = false := by rw [beq_eq_false_iff_ne]; exact fun e => hc (hCk.1 e)
        have HU := hide (used_same (φ := φ) (C := C) (f := f) (k := k) (fun h => hc h.1))
        clear hc hCk s3 s4
        go_wp2
        go_quiet (fail)
        go_wp2
        exact ⟨⟨k + 1, by omega, by go_num, by rw [HU.out]; exact hide (OwE.drewN HS.out _), hide (HO.out.drewN _)⟩, by simp [intOf]; omega⟩
    · obtain rfl : k = N := by omega
      clear hlt
      go_wp2
      exact HF.out _ _ _ _ _ _ _ _ _ _ _ _ _ _ _ _ _ _ _ _ _ _ _ _ wr HS.out HO.out

set_option maxRecDepth 100000 in
set_option maxHeartbeats 4000000 in
theorem rg_keep {Ao : Option Addr} {no co X Y Z T0 B0 : Nat} {T : Int} {v10 : Value} {s : St} {a b : Ls} {w : World} {B : Code} {K : Act → World → Prop} {Q' : Exit → Act → World → Prop} (x1 x2 x3 x4 x5 x6 x7 x8 x9 x14 x16 x17 x18 x19 x20 x21 x22 x23 x24 x25 x26 x27 x28 x29 x30 x31 x32 x33 x34 x35 x36 x37 x38 x39 x40 x41 x42 x43 x44 x45 x46 x47 x48 x49 x50 x51 x52 x53 x54 x55 x56 x57 x58 x59 x60 x61 x62 x63 x64 x65 x66 x67 x68 x69 x70 x71 x72 x73 x74 x75 x76 x77 x78 x79 x80 x81 x82 x83 x84 x85 x86 x87 x88 x89 x90 x91 x92 x93 x94 x95 x96 x97 x98 x99 x100 x101 x102 x103 x104 x105 x106 x107 x108 x109 x110 x111 x112 x113 x114 x115 x116 x117 x118 x119 x120 x121 x122 x123 x124 x125 x126 x127 x128 x129 x130 x131 x132 x133 x134 x135 x136 x137 x138 x139 x140 x141 x142 x143 x144 x145 x146 x147 x148 x149 x150 x151 x152 x153 x154 x155 x156 x157 x158 x159 x160 x161 x162 x163 x164 x165 x166 x167 x168 x169 x170 x171 x172 x173 x174 x175 x176 x177 x178 x179 x180 x181 x182 x183 x184 x185 x186 x187 x188 x189 x190 x191 x192 x193 x194 x195 x196 x197 x198 x199 x200 x201 x202 x203 x204 x205 x206 x207 x208 x209 x210 x211 x212 x213 x214 x215 x216 x217 x218 x219 x220 x221 x222 x223 x224 x225 x226 x227 x228 x229 x230 x231 x232 x233 x234 x235 x236 x237 x238 x239 x240 x241 x242 x243 x244 x245 x246 x247 x248 x249 x250 x251 x252 x253 x254 x255 x256 x257 x258 x259 x260 x261 x262 x263 x264 x265 x266 x267 x268 x269 x270 x271 x272 x273 x274 x275 x276 x277 : Value)
    (hB : B = (findS 17 (Try.f46.body.getD .skip)).getD .skip) (ho : OwR w B0 v10 s.l) (hB0 : B0 ≤ w.heap.size) (hl : s.l.length + 1 ≤ 1000000000) (hx : s.x = X) (hy : s.y = Y) (hz : s.z = Z) (hXT : X ≤ T0) (hT : T0 ≤ no) (hsm : no ≤ 1000000 ∧ Y ≤ 1000000 ∧ Z ≤ 1000000) (hTT : T = T0 ∨ (T = no + 1 ∧ T0 = no))
    (hK : ∀ (u17 u72 u73 u74 u75 u76 u77 u78 u79 u80 u81 u82 u83 u84 u85 u86 u87 u88 u89 u90 u91 u92 u93 u94 u95 u96 u97 u98 u99 u100 u101 u102 u103 u104 u105 : Value) (v' : Value) (wx : World), OwR wx B0 v' (s.keep a b T0).l → w.grownBy wx v10.ownBlock → Below B0 w wx → K { tmps := List.toArray ((.slice Ao no co) :: x1 :: x2 :: x3 :: x4 :: x5 :: x6 :: x7 :: x8 :: x9 :: (v') :: (.int .i64 X) :: (.int .i64 (Y + (T0 - X) : Nat)) :: (.int .i64 (Z + (T0 - X) : Nat)) :: x14 :: (.int .i64 T) :: x16 :: (u17) :: x18 :: x19 :: x20 :: x21 :: x22 :: x23 :: x24 :: x25 :: x26 :: x27 :: x28 :: x29 :: x30 :: x31 :: x32 :: x33 :: x34 :: x35 :: x36 :: x37 :: x38 :: x39 :: x40 :: x41 :: x42 :: x43 :: x44 :: x45 :: x46 :: x47 :: x48 :: x49 :: x50 :: x51 :: x52 :: x53 :: x54 :: x55 :: x56 :: x57 :: x58 :: x59 :: x60 :: x61 :: x62 :: x63 :: x64 :: x65 :: x66 :: x67 :: x68 :: x69 :: x70 :: x71 :: (u72) :: (u73) :: (u74) :: (u75) :: (u76) :: (u77) :: (u78) :: (u79) :: (u80) :: (u81) :: (u82) :: (u83) :: (u84) :: (u85) :: (u86) :: (u87) :: (u88) :: (u89) :: (u90) :: (u91) :: (u92) :: (u93) :: (u94) :: (u95) :: (u96) :: (u97) :: (u98) :: (u99) :: (u100) :: (u101) :: (u102) :: (u103) :: (u104) :: (u105) :: x106 :: x107 :: x108 :: x109 :: x110 :: x111 :: x112 :: x113 :: x114 :: x115 :: x116 :: x117 :: x118 :: x119 :: x120 :: x121 :: x122 :: x123 :: x124 :: x125 :: x126 :: x127 :: x128 :: x129 :: x130 :: x131 :: x132 :: x133 :: x134 :: x135 :: x136 :: x137 :: x138 :: x139 :: x140 :: x141 :: x142 :: x143 :: x144 :: x145 :: x146 :: x147 :: x148 :: x149 :: x150 :: x151 :: x152 :: x153 :: x154 :: x155 :: x156 :: x157 :: x158 :: x159 :: x160 :: x161 :: x162 :: x163 :: x164 :: x165 :: x166 :: x167 :: x168 :: x169 :: x170 :: x171 :: x172 :: x173 :: x174 :: x175 :: x176 :: x177 :: x178 :: x179 :: x180 :: x181 :: x182 :: x183 :: x184 :: x185 :: x186 :: x187 :: x188 :: x189 :: x190 :: x191 :: x192 :: x193 :: x194 :: x195 :: x196 :: x197 :: x198 :: x199 :: x200 :: x201 :: x202 :: x203 :: x204 :: x205 :: x206 :: x207 :: x208 :: x209 :: x210 :: x211 :: x212 :: x213 :: x214 :: x215 :: x216 :: x217 :: x218 :: x219 :: x220 :: x221 :: x222 :: x223 :: x224 :: x225 :: x226 :: x227 :: x228 :: x229 :: x230 :: x231 :: x232 :: x233 :: x234 :: x235 :: x236 :: x237 :: x238 :: x239 :: x240 :: x241 :: x242 :: x243 :: x244 :: x245 :: x246 :: x247 :: x248 :: x249 :: x250 :: x251 :: x252 :: x253 :: x254 :: x255 :: x256 :: x257 :: x258 :: x259 :: x260 :: x261 :: x262 :: x263 :: x264 :: x265 :: x266 :: x267 :: x268 :: x269 :: x270 :: x271 :: x272 :: x273 :: x274 :: x275 :: x276 :: x277 :: []), defers := [] } wx) :
    Code.wp Try.prog B (Exit.then K Q') { tmps := List.toArray ((.slice Ao no co) :: x1 :: x2 :: x3 :: x4 :: x5 :: x6 :: x7 :: x8 :: x9 :: (v10) :: (.int .i64 X) :: (.int .i64 Y) :: (.int .i64 Z) :: x14 :: (.int .i64 T) :: x16 :: x17 :: x18 :: x19 :: x20 :: x21 :: x22 :: x23 :: x24 :: x25 :: x26 :: x27 :: x28 :: x29 :: x30 :: x31 :: x32 :: x33 :: x34 :: x35 :: x36 :: x37 :: x38 :: x39 :: x40 :: x41 :: x42 :: x43 :: x44 :: x45 :: x46 :: x47 :: x48 :: x49 :: x50 :: x51 :: x52 :: x53 :: x54 :: x55 :: x56 :: x57 :: x58 :: x59 :: x60 :: x61 :: x62 :: x63 :: x64 :: x65 :: x66 :: x67 :: x68 :: x69 :: x70 :: x71 :: x72 :: x73 :: x74 :: x75 :: x76 :: x77 :: x78 :: x79 :: x80 :: x81 :: x82 :: x83 :: x84 :: x85 :: x86 :: x87 :: x88 :: x89 :: x90 :: x91 :: x92 :: x93 :: x94 :: x95 :: x96 :: x97 :: x98 :: x99 :: x100 :: x101 :: x102 :: x103 :: x104 :: x105 :: x106 :: x107 :: x108 :: x109 :: x110 :: x111 :: x112 :: x113 :: x114 :: x115 :: x116 :: x117 :: x118 :: x119 :: x120 :: x121 :: x122 :: x123 :: x124 :: x125 :: x126 :: x127 :: x128 :: x129 :: x130 :: x131 :: x132 :: x133 :: x134 :: x135 :: x136 :: x137 :: x138 :: x139 :: x140 :: x141 :: x142 :: x143 :: x144 :: x145 :: x146 :: x147 :: x148 :: x149 :: x150 :: x151 :: x152 :: x153 :: x154 :: x155 :: x156 :: x157 :: x158 :: x159 :: x160 :: x161 :: x162 :: x163 :: x164 :: x165 :: x166 :: x167 :: x168 :: x169 :: x170 :: x171 :: x172 :: x173 :: x174 :: x175 :: x176 :: x177 :: x178 :: x179 :: x180 :: x181 :: x182 :: x183 :: x184 :: x185 :: x186 :: x187 :: x188 :: x189 :: x190 :: x191 :: x192 :: x193 :: x194 :: x195 :: x196 :: x197 :: x198 :: x199 :: x200 :: x201 :: x202 :: x203 :: x204 :: x205 :: x206 :: x207 :: x208 :: x209 :: x210 :: x211 :: x212 :: x213 :: x214 :: x215 :: x216 :: x217 :: x218 :: x219 :: x220 :: x221 :: x222 :: x223 :: x224 :: x225 :: x226 :: x227 :: x228 :: x229 :: x230 :: x231 :: x232 :: x233 :: x234 :: x235 :: x236 :: x237 :: x238 :: x239 :: x240 :: x241 :: x242 :: x243 :: x244 :: x245 :: x246 :: x247 :: x248 :: x249 :: x250 :: x251 :: x252 :: x253 :: x254 :: x255 :: x256 :: x257 :: x258 :: x259 :: x260 :: x261 :: x262 :: x263 :: x264 :: x265 :: x266 :: x267 :: x268 :: x269 :: x270 :: x271 :: x272 :: x273 :: x274 :: x275 :: x276 :: x277 :: []), defers := [] } w := by
  have HF := hide hK
  clear hK
  subst hB
  conv => arg 2; whnf
  obtain ⟨Av, cv, rfl, _⟩ := ho.rgs
  by_cases hlt : X < T0
  · have hk : (s.keep a b T0).l = s.l ++ [⟨0, X, (T0 - X : Nat), Y, (T0 - X : Nat), Z, (T0 - X : Nat)⟩] := by
      unfold St.keep
      rw [if_pos (by omega)]
      show s.l ++ [_] = _
      congr 2
      unfold kindOf
      simp only
      rw [if_pos ⟨trivial, trivial⟩, hx, hy, hz]
      congr 1 <;> omega
    rw [hk] at HF
    have b1 : decide ((X : Int) < T) = true := decide_eq_true (by omega)
    have b2 : decide ((X : Int) < (no : Int)) = true := decide_eq_true (by omega)
    have b20 : decide (X < no) = true := decide_eq_true (by omega)
    obtain ⟨mn, hmn⟩ : ∃ mn : Int, mn = T0 := ⟨_, rfl⟩
    have m1 : (if (no : Int) < T then (no : Int) else T) = mn := by split <;> omega
    have m2 : (if T < (no : Int) then T else (no : Int)) = mn := by split <;> omega
    obtain ⟨d, hd⟩ : ∃ d, d = T0 - X := ⟨_, rfl⟩
    have w1 : IntKind.i64.wrap (mn - (X : Int)) = (d : Int) := by rw [IntWalk.i64_in _ (by omega)]; omega
    obtain ⟨Y', hY'⟩ : ∃ z, z = Y + d := ⟨_, rfl⟩
    obtain ⟨Z', hZ'⟩ : ∃ z, z = Z + d := ⟨_, rfl⟩
    have w2 : IntKind.i64.wrap ((Y : Int) + (d : Int)) = (Y' : Int) := by rw [IntWalk.i64_in _ (by omega)]; omega
    have w3 : IntKind.i64.wrap ((Z : Int) + (d : Int)) = (Z' : Int) := by rw [IntWalk.i64_in _ (by omega)]; omega
    rw [← hd, ← hY', ← hZ'] at HF
    have Ho := hide ho
    have HB0 := hide hB0
    have Hl := hide hl
    obtain ⟨n, hn⟩ : ∃ n, n = s.l.length := ⟨_, rfl⟩
    have Hn := hide hn
    rw [← hn]
    clear hk hlt hXT hT hTT hx hy hz hsm hmn hd hY' hZ' ho hB0 hl hn
    go_wp2_with (refine wpList_pushR rfl (.tmp 87) (.tmp 98) rfl B0 w (.slice Av n cv) s.l ⟨0, X, d, Y, d, Z, d⟩ _ rfl rfl rfl (by rw [Hn.out]; exact Ho.out) Hl.out (Below.refl _ _) HB0.out (fun v' w' h1 h2 h3 => ?_); have H1 := hide h1; have H2 := hide h2; have H3 := hide h3; clear h1 h2 h3)
    refine HF.out _ _ _ _ _ _ _ _ _ _ _ _ _ _ _ _ _ _ _ _ _ _ _ _ _ _ _ _ _ _ _ _ _ _ _ _ w' H1.out (by have := H3.out; rw [Hn.out] at this; exact this) H2.out
  · have e : T0 = X := by omega
    subst e
    have hk : (s.keep a b T0).l = s.l := by
      unfold St.keep
      rw [if_neg (by omega)]
    rw [hk, Nat.sub_self, Nat.add_zero, Nat.add_zero] at HF
    rcases hTT with h | ⟨h, h'⟩
    · have b1 : decide ((T0 : Int) < T) = false := decide_eq_false (by omega)
      clear hk hlt hXT hT h hx hy hz hsm hl hB0
      go_wp2
      exact HF.out _ _ _ _ _ _ _ _ _ _ _ _ _ _ _ _ _ _ _ _ _ _ _ _ _ _ _ _ _ _ _ _ _ _ _ _ w ho (World.grownBy.refl _ _) (Below.refl _ _)
    · have b1 : decide ((T0 : Int) < T) = true := decide_eq_true (by omega)
      have b2 : decide ((T0 : Int) < (no : Int)) = false := decide_eq_false (by omega)
      have b20 : decide (T0 < no) = false := decide_eq_false (by omega)
      have b21 : ¬ T0 < no := by omega
      clear hk hlt hXT hT h h' hx hy hz hsm hl hB0
      go_wp2
      exact HF.out _ _ _ _ _ _ _ _ _ _ _ _ _ _ _ _ _ _ _ _ _ _ _ _ _ _ _ _ _ _ _ _ _ _ _ _ w ho (World.grownBy.refl _ _) (Below.refl _ _)

set_option maxRecDepth 100000 in
set_option maxHeartbeats 4000000 in
theorem rg_k3 {q : Nat} {k0 : Int} {R : List Value} {bb : Bool} {w : World} {B : Code} {K : Act → World → Prop} {Q' : Exit → Act → World → Prop} (x0 x1 x2 x3 x4 x5 x6 x7 x8 x9 x10 x11 x12 x13 x14 x15 x16 x17 x19 x20 x21 x22 x24 x25 x26 x27 x28 x29 x30 x31 x32 x33 x34 x35 x36 x37 x38 x39 x40 x41 x42 x43 x44 x45 x46 x47 x48 x49 x50 x51 x52 x53 x54 x55 x56 x57 x58 x59 x60 x61 x62 x63 x64 x65 x66 x67 x68 x69 x70 x71 x72 x73 x74 x75 x76 x77 x78 x79 x80 x81 x82 x83 x84 x85 x86 x87 x88 x89 x90 x91 x92 x93 x94 x95 x96 x97 x98 x99 x100 x101 x102 x103 x104 x105 x106 x107 x108 x109 x110 x111 x112 x113 x114 x115 x116 x117 x118 x119 x120 x121 x122 x123 x124 x125 x126 x127 x128 x129 x130 x131 x132 x133 x134 x135 x136 x137 x138 x139 x140 x141 x142 x143 x144 x145 x146 x147 x148 x149 x150 x151 x152 x153 x154 x155 x156 x157 x158 x159 x160 x161 x162 x163 x164 x165 x166 x167 x168 x169 x170 x171 x172 x173 x174 x175 x176 x177 x178 x179 x180 x181 x182 x183 x184 x185 x186 x187 x188 x189 x190 x191 x192 x193 x194 x195 x196 x197 x198 x199 x200 x201 x202 x203 x204 x205 x206 x207 x208 x209 x210 x211 x212 x213 x214 x215 x216 x217 x218 x219 x220 x221 x222 x223 x224 x225 x226 x227 x228 x229 x230 x231 x232 x233 x234 x235 x236 x237 x238 x239 x240 x241 x242 x243 x244 x245 x246 x247 x248 x249 x250 x251 x252 x253 x254 x255 x256 x257 x258 x259 x260 x261 x262 x263 x264 x265 x266 x267 x268 x269 x270 x271 x272 x273 x274 x275 x276 x277 : Value)
    (hB : B = (findS 43 (Try.f46.body.getD .skip)).getD .skip) (hr : Row w q tR (.int .i64 k0 :: R))
    (hK : ∀ (u226 u227 : Value) (wx : World), Row wx q tR (.int .i64 (if bb = true then 3 else k0) :: R) → Oth (fun k => k = q) w wx → K { tmps := List.toArray (x0 :: x1 :: x2 :: x3 :: x4 :: x5 :: x6 :: x7 :: x8 :: x9 :: x10 :: x11 :: x12 :: x13 :: x14 :: x15 :: x16 :: x17 :: (.pointer (some ⟨q, 0, none⟩)) :: x19 :: x20 :: x21 :: x22 :: (.bool bb) :: x24 :: x25 :: x26 :: x27 :: x28 :: x29 :: x30 :: x31 :: x32 :: x33 :: x34 :: x35 :: x36 :: x37 :: x38 :: x39 :: x40 :: x41 :: x42 :: x43 :: x44 :: x45 :: x46 :: x47 :: x48 :: x49 :: x50 :: x51 :: x52 :: x53 :: x54 :: x55 :: x56 :: x57 :: x58 :: x59 :: x60 :: x61 :: x62 :: x63 :: x64 :: x65 :: x66 :: x67 :: x68 :: x69 :: x70 :: x71 :: x72 :: x73 :: x74 :: x75 :: x76 :: x77 :: x78 :: x79 :: x80 :: x81 :: x82 :: x83 :: x84 :: x85 :: x86 :: x87 :: x88 :: x89 :: x90 :: x91 :: x92 :: x93 :: x94 :: x95 :: x96 :: x97 :: x98 :: x99 :: x100 :: x101 :: x102 :: x103 :: x104 :: x105 :: x106 :: x107 :: x108 :: x109 :: x110 :: x111 :: x112 :: x113 :: x114 :: x115 :: x116 :: x117 :: x118 :: x119 :: x120 :: x121 :: x122 :: x123 :: x124 :: x125 :: x126 :: x127 :: x128 :: x129 :: x130 :: x131 :: x132 :: x133 :: x134 :: x135 :: x136 :: x137 :: x138 :: x139 :: x140 :: x141 :: x142 :: x143 :: x144 :: x145 :: x146 :: x147 :: x148 :: x149 :: x150 :: x151 :: x152 :: x153 :: x154 :: x155 :: x156 :: x157 :: x158 :: x159 :: x160 :: x161 :: x162 :: x163 :: x164 :: x165 :: x166 :: x167 :: x168 :: x169 :: x170 :: x171 :: x172 :: x173 :: x174 :: x175 :: x176 :: x177 :: x178 :: x179 :: x180 :: x181 :: x182 :: x183 :: x184 :: x185 :: x186 :: x187 :: x188 :: x189 :: x190 :: x191 :: x192 :: x193 :: x194 :: x195 :: x196 :: x197 :: x198 :: x199 :: x200 :: x201 :: x202 :: x203 :: x204 :: x205 :: x206 :: x207 :: x208 :: x209 :: x210 :: x211 :: x212 :: x213 :: x214 :: x215 :: x216 :: x217 :: x218 :: x219 :: x220 :: x221 :: x222 :: x223 :: x224 :: x225 :: (u226) :: (u227) :: x228 :: x229 :: x230 :: x231 :: x232 :: x233 :: x234 :: x235 :: x236 :: x237 :: x238 :: x239 :: x240 :: x241 :: x242 :: x243 :: x244 :: x245 :: x246 :: x247 :: x248 :: x249 :: x250 :: x251 :: x252 :: x253 :: x254 :: x255 :: x256 :: x257 :: x258 :: x259 :: x260 :: x261 :: x262 :: x263 :: x264 :: x265 :: x266 :: x267 :: x268 :: x269 :: x270 :: x271 :: x272 :: x273 :: x274 :: x275 :: x276 :: x277 :: []), defers := [] } wx) :
    Code.wp Try.prog B (Exit.then K Q') { tmps := List.toArray (x0 :: x1 :: x2 :: x3 :: x4 :: x5 :: x6 :: x7 :: x8 :: x9 :: x10 :: x11 :: x12 :: x13 :: x14 :: x15 :: x16 :: x17 :: (.pointer (some ⟨q, 0, none⟩)) :: x19 :: x20 :: x21 :: x22 :: (.bool bb) :: x24 :: x25 :: x26 :: x27 :: x28 :: x29 :: x30 :: x31 :: x32 :: x33 :: x34 :: x35 :: x36 :: x37 :: x38 :: x39 :: x40 :: x41 :: x42 :: x43 :: x44 :: x45 :: x46 :: x47 :: x48 :: x49 :: x50 :: x51 :: x52 :: x53 :: x54 :: x55 :: x56 :: x57 :: x58 :: x59 :: x60 :: x61 :: x62 :: x63 :: x64 :: x65 :: x66 :: x67 :: x68 :: x69 :: x70 :: x71 :: x72 :: x73 :: x74 :: x75 :: x76 :: x77 :: x78 :: x79 :: x80 :: x81 :: x82 :: x83 :: x84 :: x85 :: x86 :: x87 :: x88 :: x89 :: x90 :: x91 :: x92 :: x93 :: x94 :: x95 :: x96 :: x97 :: x98 :: x99 :: x100 :: x101 :: x102 :: x103 :: x104 :: x105 :: x106 :: x107 :: x108 :: x109 :: x110 :: x111 :: x112 :: x113 :: x114 :: x115 :: x116 :: x117 :: x118 :: x119 :: x120 :: x121 :: x122 :: x123 :: x124 :: x125 :: x126 :: x127 :: x128 :: x129 :: x130 :: x131 :: x132 :: x133 :: x134 :: x135 :: x136 :: x137 :: x138 :: x139 :: x140 :: x141 :: x142 :: x143 :: x144 :: x145 :: x146 :: x147 :: x148 :: x149 :: x150 :: x151 :: x152 :: x153 :: x154 :: x155 :: x156 :: x157 :: x158 :: x159 :: x160 :: x161 :: x162 :: x163 :: x164 :: x165 :: x166 :: x167 :: x168 :: x169 :: x170 :: x171 :: x172 :: x173 :: x174 :: x175 :: x176 :: x177 :: x178 :: x179 :: x180 :: x181 :: x182 :: x183 :: x184 :: x185 :: x186 :: x187 :: x188 :: x189 :: x190 :: x191 :: x192 :: x193 :: x194 :: x195 :: x196 :: x197 :: x198 :: x199 :: x200 :: x201 :: x202 :: x203 :: x204 :: x205 :: x206 :: x207 :: x208 :: x209 :: x210 :: x211 :: x212 :: x213 :: x214 :: x215 :: x216 :: x217 :: x218 :: x219 :: x220 :: x221 :: x222 :: x223 :: x224 :: x225 :: x226 :: x227 :: x228 :: x229 :: x230 :: x231 :: x232 :: x233 :: x234 :: x235 :: x236 :: x237 :: x238 :: x239 :: x240 :: x241 :: x242 :: x243 :: x244 :: x245 :: x246 :: x247 :: x248 :: x249 :: x250 :: x251 :: x252 :: x253 :: x254 :: x255 :: x256 :: x257 :: x258 :: x259 :: x260 :: x261 :: x262 :: x263 :: x264 :: x265 :: x266 :: x267 :: x268 :: x269 :: x270 :: x271 :: x272 :: x273 :: x274 :: x275 :: x276 :: x277 :: []), defers := [] } w := by
  have HF := hide hK
  clear hK
  subst hB
  conv => arg 2; whnf
  have k0' := hr.cell 0
  have f0 := hr.free 0
  simp only [List.getElem?_cons_zero] at k0'
  have h1 := hr.put 0 (.int .i64 3)
  have h2 := (Oth.refl (fun k => k = q) w).put (g := q) (i := 0) (.inl rfl) (.int .i64 3)
  have Hr := hide hr
  have H1 := hide h1
  have H2 := hide h2
  clear hr h1 h2
  cases bb
  · go_wp2
    exact HF.out _ _ _ Hr.out (Oth.refl _ _)
  · go_wp2
    exact HF.out _ _ _ H1.out H2.out

set_option maxRecDepth 100000 in
set_option maxHeartbeats 4000000 in
theorem rg_k1 {q : Nat} {k0 : Int} {R : List Value} {bb : Bool} {w : World} {B : Code} {K : Act → World → Prop} {Q' : Exit → Act → World → Prop} (x0 x1 x2 x3 x4 x5 x6 x7 x8 x9 x10 x11 x12 x13 x14 x15 x16 x17 x19 x20 x22 x23 x24 x25 x26 x27 x28 x29 x30 x31 x32 x33 x34 x35 x36 x37 x38 x39 x40 x41 x42 x43 x44 x45 x46 x47 x48 x49 x50 x51 x52 x53 x54 x55 x56 x57 x58 x59 x60 x61 x62 x63 x64 x65 x66 x67 x68 x69 x70 x71 x72 x73 x74 x75 x76 x77 x78 x79 x80 x81 x82 x83 x84 x85 x86 x87 x88 x89 x90 x91 x92 x93 x94 x95 x96 x97 x98 x99 x100 x101 x102 x103 x104 x105 x106 x107 x108 x109 x110 x111 x112 x113 x114 x115 x116 x117 x118 x119 x120 x121 x122 x123 x124 x125 x126 x127 x128 x129 x130 x131 x132 x133 x134 x135 x136 x137 x138 x139 x140 x141 x142 x143 x144 x145 x146 x147 x148 x149 x150 x151 x152 x153 x154 x155 x156 x157 x158 x159 x160 x161 x162 x163 x164 x165 x166 x167 x168 x169 x170 x171 x172 x173 x174 x175 x176 x177 x178 x179 x180 x181 x182 x183 x184 x185 x186 x187 x188 x189 x190 x191 x192 x193 x194 x195 x196 x197 x198 x199 x200 x201 x202 x203 x204 x205 x206 x207 x208 x209 x210 x211 x212 x213 x214 x215 x216 x217 x218 x219 x220 x221 x222 x223 x224 x225 x226 x227 x228 x229 x230 x231 x232 x233 x234 x235 x236 x237 x238 x239 x240 x241 x242 x243 x244 x245 x246 x247 x248 x249 x250 x251 x252 x253 x254 x255 x256 x257 x258 x259 x260 x261 x262 x263 x264 x265 x266 x267 x268 x269 x270 x271 x272 x273 x274 x275 x276 x277 : Value)
    (hB : B = (findS 45 (Try.f46.body.getD .skip)).getD .skip) (hr : Row w q tR (.int .i64 k0 :: R))
    (hK : ∀ (u228 u229 u230 : Value) (wx : World), Row wx q tR (.int .i64 (if bb = false then 1 else k0) :: R) → Oth (fun k => k = q) w wx → K { tmps := List.toArray (x0 :: x1 :: x2 :: x3 :: x4 :: x5 :: x6 :: x7 :: x8 :: x9 :: x10 :: x11 :: x12 :: x13 :: x14 :: x15 :: x16 :: x17 :: (.pointer (some ⟨q, 0, none⟩)) :: x19 :: x20 :: (.bool bb) :: x22 :: x23 :: x24 :: x25 :: x26 :: x27 :: x28 :: x29 :: x30 :: x31 :: x32 :: x33 :: x34 :: x35 :: x36 :: x37 :: x38 :: x39 :: x40 :: x41 :: x42 :: x43 :: x44 :: x45 :: x46 :: x47 :: x48 :: x49 :: x50 :: x51 :: x52 :: x53 :: x54 :: x55 :: x56 :: x57 :: x58 :: x59 :: x60 :: x61 :: x62 :: x63 :: x64 :: x65 :: x66 :: x67 :: x68 :: x69 :: x70 :: x71 :: x72 :: x73 :: x74 :: x75 :: x76 :: x77 :: x78 :: x79 :: x80 :: x81 :: x82 :: x83 :: x84 :: x85 :: x86 :: x87 :: x88 :: x89 :: x90 :: x91 :: x92 :: x93 :: x94 :: x95 :: x96 :: x97 :: x98 :: x99 :: x100 :: x101 :: x102 :: x103 :: x104 :: x105 :: x106 :: x107 :: x108 :: x109 :: x110 :: x111 :: x112 :: x113 :: x114 :: x115 :: x116 :: x117 :: x118 :: x119 :: x120 :: x121 :: x122 :: x123 :: x124 :: x125 :: x126 :: x127 :: x128 :: x129 :: x130 :: x131 :: x132 :: x133 :: x134 :: x135 :: x136 :: x137 :: x138 :: x139 :: x140 :: x141 :: x142 :: x143 :: x144 :: x145 :: x146 :: x147 :: x148 :: x149 :: x150 :: x151 :: x152 :: x153 :: x154 :: x155 :: x156 :: x157 :: x158 :: x159 :: x160 :: x161 :: x162 :: x163 :: x164 :: x165 :: x166 :: x167 :: x168 :: x169 :: x170 :: x171 :: x172 :: x173 :: x174 :: x175 :: x176 :: x177 :: x178 :: x179 :: x180 :: x181 :: x182 :: x183 :: x184 :: x185 :: x186 :: x187 :: x188 :: x189 :: x190 :: x191 :: x192 :: x193 :: x194 :: x195 :: x196 :: x197 :: x198 :: x199 :: x200 :: x201 :: x202 :: x203 :: x204 :: x205 :: x206 :: x207 :: x208 :: x209 :: x210 :: x211 :: x212 :: x213 :: x214 :: x215 :: x216 :: x217 :: x218 :: x219 :: x220 :: x221 :: x222 :: x223 :: x224 :: x225 :: x226 :: x227 :: (u228) :: (u229) :: (u230) :: x231 :: x232 :: x233 :: x234 :: x235 :: x236 :: x237 :: x238 :: x239 :: x240 :: x241 :: x242 :: x243 :: x244 :: x245 :: x246 :: x247 :: x248 :: x249 :: x250 :: x251 :: x252 :: x253 :: x254 :: x255 :: x256 :: x257 :: x258 :: x259 :: x260 :: x261 :: x262 :: x263 :: x264 :: x265 :: x266 :: x267 :: x268 :: x269 :: x270 :: x271 :: x272 :: x273 :: x274 :: x275 :: x276 :: x277 :: []), defers := [] } wx) :
    Code.wp Try.prog B (Exit.then K Q') { tmps := List.toArray (x0 :: x1 :: x2 :: x3 :: x4 :: x5 :: x6 :: x7 :: x8 :: x9 :: x10 :: x11 :: x12 :: x13 :: x14 :: x15 :: x16 :: x17 :: (.pointer (some ⟨q, 0, none⟩)) :: x19 :: x20 :: (.bool bb) :: x22 :: x23 :: x24 :: x25 :: x26 :: x27 :: x28 :: x29 :: x30 :: x31 :: x32 :: x33 :: x34 :: x35 :: x36 :: x37 :: x38 :: x39 :: x40 :: x41 :: x42 :: x43 :: x44 :: x45 :: x46 :: x47 :: x48 :: x49 :: x50 :: x51 :: x52 :: x53 :: x54 :: x55 :: x56 :: x57 :: x58 :: x59 :: x60 :: x61 :: x62 :: x63 :: x64 :: x65 :: x66 :: x67 :: x68 :: x69 :: x70 :: x71 :: x72 :: x73 :: x74 :: x75 :: x76 :: x77 :: x78 :: x79 :: x80 :: x81 :: x82 :: x83 :: x84 :: x85 :: x86 :: x87 :: x88 :: x89 :: x90 :: x91 :: x92 :: x93 :: x94 :: x95 :: x96 :: x97 :: x98 :: x99 :: x100 :: x101 :: x102 :: x103 :: x104 :: x105 :: x106 :: x107 :: x108 :: x109 :: x110 :: x111 :: x112 :: x113 :: x114 :: x115 :: x116 :: x117 :: x118 :: x119 :: x120 :: x121 :: x122 :: x123 :: x124 :: x125 :: x126 :: x127 :: x128 :: x129 :: x130 :: x131 :: x132 :: x133 :: x134 :: x135 :: x136 :: x137 :: x138 :: x139 :: x140 :: x141 :: x142 :: x143 :: x144 :: x145 :: x146 :: x147 :: x148 :: x149 :: x150 :: x151 :: x152 :: x153 :: x154 :: x155 :: x156 :: x157 :: x158 :: x159 :: x160 :: x161 :: x162 :: x163 :: x164 :: x165 :: x166 :: x167 :: x168 :: x169 :: x170 :: x171 :: x172 :: x173 :: x174 :: x175 :: x176 :: x177 :: x178 :: x179 :: x180 :: x181 :: x182 :: x183 :: x184 :: x185 :: x186 :: x187 :: x188 :: x189 :: x190 :: x191 :: x192 :: x193 :: x194 :: x195 :: x196 :: x197 :: x198 :: x199 :: x200 :: x201 :: x202 :: x203 :: x204 :: x205 :: x206 :: x207 :: x208 :: x209 :: x210 :: x211 :: x212 :: x213 :: x214 :: x215 :: x216 :: x217 :: x218 :: x219 :: x220 :: x221 :: x222 :: x223 :: x224 :: x225 :: x226 :: x227 :: x228 :: x229 :: x230 :: x231 :: x232 :: x233 :: x234 :: x235 :: x236 :: x237 :: x238 :: x239 :: x240 :: x241 :: x242 :: x243 :: x244 :: x245 :: x246 :: x247 :: x248 :: x249 :: x250 :: x251 :: x252 :: x253 :: x254 :: x255 :: x256 :: x257 :: x258 :: x259 :: x260 :: x261 :: x262 :: x263 :: x264 :: x265 :: x266 :: x267 :: x268 :: x269 :: x270 :: x271 :: x272 :: x273 :: x274 :: x275 :: x276 :: x277 :: []), defers := [] } w := by
  have HF := hide hK
  clear hK
  subst hB
  conv => arg 2; whnf
  have k0' := hr.cell 0
  have f0 := hr.free 0
  simp only [List.getElem?_cons_zero] at k0'
  have h1 := hr.put 0 (.int .i64 1)
  have h2 := (Oth.refl (fun k => k = q) w).put (g := q) (i := 0) (.inl rfl) (.int .i64 1)
  have Hr := hide hr
  have H1 := hide h1
  have H2 := hide h2
  clear hr h1 h2
  cases bb
  · go_wp2
    exact HF.out _ _ _ _ H1.out H2.out
  · go_wp2
    exact HF.out _ _ _ _ Hr.out (Oth.refl _ _)

set_option maxRecDepth 100000 in
set_option maxHeartbeats 4000000 in
theorem rg_k2 {q : Nat} {k0 : Int} {R : List Value} {bb : Bool} {w : World} {B : Code} {K : Act → World → Prop} {Q' : Exit → Act → World → Prop} (x0 x1 x2 x3 x4 x5 x6 x7 x8 x9 x10 x11 x12 x13 x14 x15 x16 x17 x19 x21 x22 x23 x24 x25 x26 x27 x28 x29 x30 x31 x32 x33 x34 x35 x36 x37 x38 x39 x40 x41 x42 x43 x44 x45 x46 x47 x48 x49 x50 x51 x52 x53 x54 x55 x56 x57 x58 x59 x60 x61 x62 x63 x64 x65 x66 x67 x68 x69 x70 x71 x72 x73 x74 x75 x76 x77 x78 x79 x80 x81 x82 x83 x84 x85 x86 x87 x88 x89 x90 x91 x92 x93 x94 x95 x96 x97 x98 x99 x100 x101 x102 x103 x104 x105 x106 x107 x108 x109 x110 x111 x112 x113 x114 x115 x116 x117 x118 x119 x120 x121 x122 x123 x124 x125 x126 x127 x128 x129 x130 x131 x132 x133 x134 x135 x136 x137 x138 x139 x140 x141 x142 x143 x144 x145 x146 x147 x148 x149 x150 x151 x152 x153 x154 x155 x156 x157 x158 x159 x160 x161 x162 x163 x164 x165 x166 x167 x168 x169 x170 x171 x172 x173 x174 x175 x176 x177 x178 x179 x180 x181 x182 x183 x184 x185 x186 x187 x188 x189 x190 x191 x192 x193 x194 x195 x196 x197 x198 x199 x200 x201 x202 x203 x204 x205 x206 x207 x208 x209 x210 x211 x212 x213 x214 x215 x216 x217 x218 x219 x220 x221 x222 x223 x224 x225 x226 x227 x228 x229 x230 x231 x232 x233 x234 x235 x236 x237 x238 x239 x240 x241 x242 x243 x244 x245 x246 x247 x248 x249 x250 x251 x252 x253 x254 x255 x256 x257 x258 x259 x260 x261 x262 x263 x264 x265 x266 x267 x268 x269 x270 x271 x272 x273 x274 x275 x276 x277 : Value)
    (hB : B = (findS 47 (Try.f46.body.getD .skip)).getD .skip) (hr : Row w q tR (.int .i64 k0 :: R))
    (hK : ∀ (u231 u232 u233 : Value) (wx : World), Row wx q tR (.int .i64 (if bb = false then 2 else k0) :: R) → Oth (fun k => k = q) w wx → K { tmps := List.toArray (x0 :: x1 :: x2 :: x3 :: x4 :: x5 :: x6 :: x7 :: x8 :: x9 :: x10 :: x11 :: x12 :: x13 :: x14 :: x15 :: x16 :: x17 :: (.pointer (some ⟨q, 0, none⟩)) :: x19 :: (.bool bb) :: x21 :: x22 :: x23 :: x24 :: x25 :: x26 :: x27 :: x28 :: x29 :: x30 :: x31 :: x32 :: x33 :: x34 :: x35 :: x36 :: x37 :: x38 :: x39 :: x40 :: x41 :: x42 :: x43 :: x44 :: x45 :: x46 :: x47 :: x48 :: x49 :: x50 :: x51 :: x52 :: x53 :: x54 :: x55 :: x56 :: x57 :: x58 :: x59 :: x60 :: x61 :: x62 :: x63 :: x64 :: x65 :: x66 :: x67 :: x68 :: x69 :: x70 :: x71 :: x72 :: x73 :: x74 :: x75 :: x76 :: x77 :: x78 :: x79 :: x80 :: x81 :: x82 :: x83 :: x84 :: x85 :: x86 :: x87 :: x88 :: x89 :: x90 :: x91 :: x92 :: x93 :: x94 :: x95 :: x96 :: x97 :: x98 :: x99 :: x100 :: x101 :: x102 :: x103 :: x104 :: x105 :: x106 :: x107 :: x108 :: x109 :: x110 :: x111 :: x112 :: x113 :: x114 :: x115 :: x116 :: x117 :: x118 :: x119 :: x120 :: x121 :: x122 :: x123 :: x124 :: x125 :: x126 :: x127 :: x128 :: x129 :: x130 :: x131 :: x132 :: x133 :: x134 :: x135 :: x136 :: x137 :: x138 :: x139 :: x140 :: x141 :: x142 :: x143 :: x144 :: x145 :: x146 :: x147 :: x148 :: x149 :: x150 :: x151 :: x152 :: x153 :: x154 :: x155 :: x156 :: x157 :: x158 :: x159 :: x160 :: x161 :: x162 :: x163 :: x164 :: x165 :: x166 :: x167 :: x168 :: x169 :: x170 :: x171 :: x172 :: x173 :: x174 :: x175 :: x176 :: x177 :: x178 :: x179 :: x180 :: x181 :: x182 :: x183 :: x184 :: x185 :: x186 :: x187 :: x188 :: x189 :: x190 :: x191 :: x192 :: x193 :: x194 :: x195 :: x196 :: x197 :: x198 :: x199 :: x200 :: x201 :: x202 :: x203 :: x204 :: x205 :: x206 :: x207 :: x208 :: x209 :: x210 :: x211 :: x212 :: x213 :: x214 :: x215 :: x216 :: x217 :: x218 :: x219 :: x220 :: x221 :: x222 :: x223 :: x224 :: x225 :: x226 :: x227 :: x228 :: x229 :: x230 :: (u231) :: (u232) :: (u233) :: x234 :: x235 :: x236 :: x237 :: x238 :: x239 :: x240 :: x241 :: x242 :: x243 :: x244 :: x245 :: x246 :: x247 :: x248 :: x249 :: x250 :: x251 :: x252 :: x253 :: x254 :: x255 :: x256 :: x257 :: x258 :: x259 :: x260 :: x261 :: x262 :: x263 :: x264 :: x265 :: x266 :: x267 :: x268 :: x269 :: x270 :: x271 :: x272 :: x273 :: x274 :: x275 :: x276 :: x277 :: []), defers := [] } wx) :
    Code.wp Try.prog B (Exit.then K Q') { tmps := List.toArray (x0 :: x1 :: x2 :: x3 :: x4 :: x5 :: x6 :: x7 :: x8 :: x9 :: x10 :: x11 :: x12 :: x13 :: x14 :: x15 :: x16 :: x17 :: (.pointer (some ⟨q, 0, none⟩)) :: x19 :: (.bool bb) :: x21 :: x22 :: x23 :: x24 :: x25 :: x26 :: x27 :: x28 :: x29 :: x30 :: x31 :: x32 :: x33 :: x34 :: x35 :: x36 :: x37 :: x38 :: x39 :: x40 :: x41 :: x42 :: x43 :: x44 :: x45 :: x46 :: x47 :: x48 :: x49 :: x50 :: x51 :: x52 :: x53 :: x54 :: x55 :: x56 :: x57 :: x58 :: x59 :: x60 :: x61 :: x62 :: x63 :: x64 :: x65 :: x66 :: x67 :: x68 :: x69 :: x70 :: x71 :: x72 :: x73 :: x74 :: x75 :: x76 :: x77 :: x78 :: x79 :: x80 :: x81 :: x82 :: x83 :: x84 :: x85 :: x86 :: x87 :: x88 :: x89 :: x90 :: x91 :: x92 :: x93 :: x94 :: x95 :: x96 :: x97 :: x98 :: x99 :: x100 :: x101 :: x102 :: x103 :: x104 :: x105 :: x106 :: x107 :: x108 :: x109 :: x110 :: x111 :: x112 :: x113 :: x114 :: x115 :: x116 :: x117 :: x118 :: x119 :: x120 :: x121 :: x122 :: x123 :: x124 :: x125 :: x126 :: x127 :: x128 :: x129 :: x130 :: x131 :: x132 :: x133 :: x134 :: x135 :: x136 :: x137 :: x138 :: x139 :: x140 :: x141 :: x142 :: x143 :: x144 :: x145 :: x146 :: x147 :: x148 :: x149 :: x150 :: x151 :: x152 :: x153 :: x154 :: x155 :: x156 :: x157 :: x158 :: x159 :: x160 :: x161 :: x162 :: x163 :: x164 :: x165 :: x166 :: x167 :: x168 :: x169 :: x170 :: x171 :: x172 :: x173 :: x174 :: x175 :: x176 :: x177 :: x178 :: x179 :: x180 :: x181 :: x182 :: x183 :: x184 :: x185 :: x186 :: x187 :: x188 :: x189 :: x190 :: x191 :: x192 :: x193 :: x194 :: x195 :: x196 :: x197 :: x198 :: x199 :: x200 :: x201 :: x202 :: x203 :: x204 :: x205 :: x206 :: x207 :: x208 :: x209 :: x210 :: x211 :: x212 :: x213 :: x214 :: x215 :: x216 :: x217 :: x218 :: x219 :: x220 :: x221 :: x222 :: x223 :: x224 :: x225 :: x226 :: x227 :: x228 :: x229 :: x230 :: x231 :: x232 :: x233 :: x234 :: x235 :: x236 :: x237 :: x238 :: x239 :: x240 :: x241 :: x242 :: x243 :: x244 :: x245 :: x246 :: x247 :: x248 :: x249 :: x250 :: x251 :: x252 :: x253 :: x254 :: x255 :: x256 :: x257 :: x258 :: x259 :: x260 :: x261 :: x262 :: x263 :: x264 :: x265 :: x266 :: x267 :: x268 :: x269 :: x270 :: x271 :: x272 :: x273 :: x274 :: x275 :: x276 :: x277 :: []), defers := [] } w := by
  have HF := hide hK
  clear hK
  subst hB
  conv => arg 2; whnf
  have k0' := hr.cell 0
  have f0 := hr.free 0
  simp only [List.getElem?_cons_zero] at k0'
  have h1 := hr.put 0 (.int .i64 2)
  have h2 := (Oth.refl (fun k => k = q) w).put (g := q) (i := 0) (.inl rfl) (.int .i64 2)
  have Hr := hide hr
  have H1 := hide h1
  have H2 := hide h2
  clear hr h1 h2
  cases bb
  · go_wp2
    exact HF.out _ _ _ _ H1.out H2.out
  · go_wp2
    exact HF.out _ _ _ _ Hr.out (Oth.refl _ _)

set_option maxRecDepth 100000 in
set_option maxHeartbeats 4000000 in
theorem rg_texts {Aa Ab : Option Addr} {na ca nb cb Y Z q M1 M2 : Nat} {a b : Ls} {P P' : Nat → Prop} {k0 k1 k2 k3 k5 : Value} {w : World} {B : Code} {K : Act → World → Prop} {Q' : Exit → Act → World → Prop} (x0 x3 x4 x5 x6 x7 x8 x9 x10 x11 x14 x15 x16 x17 x19 x20 x21 x22 x23 x24 x25 x26 x27 x28 x29 x30 x31 x32 x33 x34 x35 x36 x37 x38 x39 x40 x41 x42 x43 x44 x45 x46 x47 x48 x49 x50 x51 x52 x53 x54 x55 x56 x57 x58 x59 x60 x61 x62 x63 x64 x65 x66 x67 x68 x69 x70 x71 x72 x73 x74 x75 x76 x77 x78 x79 x80 x81 x82 x83 x84 x85 x86 x87 x88 x89 x90 x91 x92 x93 x94 x95 x96 x97 x98 x99 x100 x101 x102 x103 x104 x105 x106 x107 x108 x109 x110 x111 x112 x113 x114 x115 x116 x117 x118 x119 x120 x121 x122 x123 x124 x125 x126 x127 x128 x129 x130 x131 x132 x133 x134 x135 x136 x137 x138 x139 x140 x141 x142 x143 x144 x145 x146 x147 x148 x149 x150 x151 x152 x153 x154 x155 x156 x157 x158 x159 x160 x161 x162 x163 x164 x165 x166 x167 x168 x169 x170 x171 x172 x173 x174 x175 x176 x177 x178 x179 x180 x181 x182 x183 x184 x185 x186 x187 x188 x189 x190 x191 x192 x193 x194 x195 x196 x197 x198 x199 x200 x201 x202 x203 x204 x205 x206 x207 x208 x209 x210 x211 x212 x213 x214 x215 x216 x217 x218 x219 x220 x221 x222 x223 x224 x225 x226 x227 x228 x229 x230 x231 x232 x233 x234 x235 x236 x237 x238 x239 x240 x241 x242 x243 x244 x245 x246 x247 x248 x249 x250 x251 x252 x253 x254 x255 x256 x257 x258 x259 x260 x261 x262 x263 x264 x265 x266 x267 x268 x269 x270 x271 x272 x273 x274 x275 x276 x277 : Value)
    (hB : B = (findR 41 (Try.f46.body.getD .skip)).getD .skip) (hr : Row w q tR [k0, k1, k2, k3, .int .i64 M1, k5, .int .i64 M2]) (hva : Vs w P Aa ca (texts a)) (hvb : Vs w P' Ab cb (texts b)) (hna : na = a.length) (hnb : nb = b.length) (hY : Y + M1 ≤ na) (hZ : Z + M2 ≤ nb) (hsm : na ≤ 1000000 ∧ nb ≤ 1000000)
    (hK : ∀ (u208 u209 u210 u211 u212 u213 u214 u215 u216 u217 u218 u219 u220 u221 u222 u223 u224 : Value) (wx : World), Below w.heap.size w wx → K { tmps := List.toArray (x0 :: (.slice Aa na ca) :: (.slice Ab nb cb) :: x3 :: x4 :: x5 :: x6 :: x7 :: x8 :: x9 :: x10 :: x11 :: (.int .i64 Y) :: (.int .i64 Z) :: x14 :: x15 :: x16 :: x17 :: (.pointer (some ⟨q, 0, none⟩)) :: x19 :: x20 :: x21 :: x22 :: (.bool (decide (cut a Y M1 = cut b Z M2))) :: x24 :: x25 :: x26 :: x27 :: x28 :: x29 :: x30 :: x31 :: x32 :: x33 :: x34 :: x35 :: x36 :: x37 :: x38 :: x39 :: x40 :: x41 :: x42 :: x43 :: x44 :: x45 :: x46 :: x47 :: x48 :: x49 :: x50 :: x51 :: x52 :: x53 :: x54 :: x55 :: x56 :: x57 :: x58 :: x59 :: x60 :: x61 :: x62 :: x63 :: x64 :: x65 :: x66 :: x67 :: x68 :: x69 :: x70 :: x71 :: x72 :: x73 :: x74 :: x75 :: x76 :: x77 :: x78 :: x79 :: x80 :: x81 :: x82 :: x83 :: x84 :: x85 :: x86 :: x87 :: x88 :: x89 :: x90 :: x91 :: x92 :: x93 :: x94 :: x95 :: x96 :: x97 :: x98 :: x99 :: x100 :: x101 :: x102 :: x103 :: x104 :: x105 :: x106 :: x107 :: x108 :: x109 :: x110 :: x111 :: x112 :: x113 :: x114 :: x115 :: x116 :: x117 :: x118 :: x119 :: x120 :: x121 :: x122 :: x123 :: x124 :: x125 :: x126 :: x127 :: x128 :: x129 :: x130 :: x131 :: x132 :: x133 :: x134 :: x135 :: x136 :: x137 :: x138 :: x139 :: x140 :: x141 :: x142 :: x143 :: x144 :: x145 :: x146 :: x147 :: x148 :: x149 :: x150 :: x151 :: x152 :: x153 :: x154 :: x155 :: x156 :: x157 :: x158 :: x159 :: x160 :: x161 :: x162 :: x163 :: x164 :: x165 :: x166 :: x167 :: x168 :: x169 :: x170 :: x171 :: x172 :: x173 :: x174 :: x175 :: x176 :: x177 :: x178 :: x179 :: x180 :: x181 :: x182 :: x183 :: x184 :: x185 :: x186 :: x187 :: x188 :: x189 :: x190 :: x191 :: x192 :: x193 :: x194 :: x195 :: x196 :: x197 :: x198 :: x199 :: x200 :: x201 :: x202 :: x203 :: x204 :: x205 :: x206 :: x207 :: (u208) :: (u209) :: (u210) :: (u211) :: (u212) :: (u213) :: (u214) :: (u215) :: (u216) :: (u217) :: (u218) :: (u219) :: (u220) :: (u221) :: (u222) :: (u223) :: (u224) :: x225 :: x226 :: x227 :: x228 :: x229 :: x230 :: x231 :: x232 :: x233 :: x234 :: x235 :: x236 :: x237 :: x238 :: x239 :: x240 :: x241 :: x242 :: x243 :: x244 :: x245 :: x246 :: x247 :: x248 :: x249 :: x250 :: x251 :: x252 :: x253 :: x254 :: x255 :: x256 :: x257 :: x258 :: x259 :: x260 :: x261 :: x262 :: x263 :: x264 :: x265 :: x266 :: x267 :: x268 :: x269 :: x270 :: x271 :: x272 :: x273 :: x274 :: x275 :: x276 :: x277 :: []), defers := [] } wx) :
    Code.wp Try.prog B (Exit.then K Q') { tmps := List.toArray (x0 :: (.slice Aa na ca) :: (.slice Ab nb cb) :: x3 :: x4 :: x5 :: x6 :: x7 :: x8 :: x9 :: x10 :: x11 :: (.int .i64 Y) :: (.int .i64 Z) :: x14 :: x15 :: x16 :: x17 :: (.pointer (some ⟨q, 0, none⟩)) :: x19 :: x20 :: x21 :: x22 :: x23 :: x24 :: x25 :: x26 :: x27 :: x28 :: x29 :: x30 :: x31 :: x32 :: x33 :: x34 :: x35 :: x36 :: x37 :: x38 :: x39 :: x40 :: x41 :: x42 :: x43 :: x44 :: x45 :: x46 :: x47 :: x48 :: x49 :: x50 :: x51 :: x52 :: x53 :: x54 :: x55 :: x56 :: x57 :: x58 :: x59 :: x60 :: x61 :: x62 :: x63 :: x64 :: x65 :: x66 :: x67 :: x68 :: x69 :: x70 :: x71 :: x72 :: x73 :: x74 :: x75 :: x76 :: x77 :: x78 :: x79 :: x80 :: x81 :: x82 :: x83 :: x84 :: x85 :: x86 :: x87 :: x88 :: x89 :: x90 :: x91 :: x92 :: x93 :: x94 :: x95 :: x96 :: x97 :: x98 :: x99 :: x100 :: x101 :: x102 :: x103 :: x104 :: x105 :: x106 :: x107 :: x108 :: x109 :: x110 :: x111 :: x112 :: x113 :: x114 :: x115 :: x116 :: x117 :: x118 :: x119 :: x120 :: x121 :: x122 :: x123 :: x124 :: x125 :: x126 :: x127 :: x128 :: x129 :: x130 :: x131 :: x132 :: x133 :: x134 :: x135 :: x136 :: x137 :: x138 :: x139 :: x140 :: x141 :: x142 :: x143 :: x144 :: x145 :: x146 :: x147 :: x148 :: x149 :: x150 :: x151 :: x152 :: x153 :: x154 :: x155 :: x156 :: x157 :: x158 :: x159 :: x160 :: x161 :: x162 :: x163 :: x164 :: x165 :: x166 :: x167 :: x168 :: x169 :: x170 :: x171 :: x172 :: x173 :: x174 :: x175 :: x176 :: x177 :: x178 :: x179 :: x180 :: x181 :: x182 :: x183 :: x184 :: x185 :: x186 :: x187 :: x188 :: x189 :: x190 :: x191 :: x192 :: x193 :: x194 :: x195 :: x196 :: x197 :: x198 :: x199 :: x200 :: x201 :: x202 :: x203 :: x204 :: x205 :: x206 :: x207 :: x208 :: x209 :: x210 :: x211 :: x212 :: x213 :: x214 :: x215 :: x216 :: x217 :: x218 :: x219 :: x220 :: x221 :: x222 :: x223 :: x224 :: x225 :: x226 :: x227 :: x228 :: x229 :: x230 :: x231 :: x232 :: x233 :: x234 :: x235 :: x236 :: x237 :: x238 :: x239 :: x240 :: x241 :: x242 :: x243 :: x244 :: x245 :: x246 :: x247 :: x248 :: x249 :: x250 :: x251 :: x252 :: x253 :: x254 :: x255 :: x256 :: x257 :: x258 :: x259 :: x260 :: x261 :: x262 :: x263 :: x264 :: x265 :: x266 :: x267 :: x268 :: x269 :: x270 :: x271 :: x272 :: x273 :: x274 :: x275 :: x276 :: x277 :: []), defers := [] } w := by
  have HF := hide hK
  clear hK
  subst hB
  conv => arg 2; whnf
  have q4 := hr.cell 4
  have q6 := hr.cell 6
  simp only [List.getElem?_cons_zero, List.getElem?_cons_succ] at q4 q6
  have hca := hva.1
  have hcb := hvb.1
  rw [texts_len, ← hna] at hca
  rw [texts_len, ← hnb] at hcb
  obtain ⟨y2, hy2⟩ : ∃ z, z = Y + M1 := ⟨_, rfl⟩
  obtain ⟨z2, hz2⟩ : ∃ z, z = Z + M2 := ⟨_, rfl⟩
  have c1 := fun w => run_cut2 w Aa na ca Y y2 (by omega) (by omega)
  have c2 := fun w => run_cut2 w Ab nb cb Z z2 (by omega) (by omega)
  have wy : IntKind.i64.wrap ((Y : Int) + (M1 : Int)) = (y2 : Int) := by rw [IntWalk.i64_in _ (by omega)]; omega
  have wz : IntKind.i64.wrap ((Z : Int) + (M2 : Int)) = (z2 : Int) := by rw [IntWalk.i64_in _ (by omega)]; omega
  have v1 := vs_cut hva (i := Y) (j := y2) (by omega) (by omega)
  have v2 := vs_cut hvb (i := Z) (j := z2) (by omega) (by omega)
  have e1 : (a.drop Y).take (y2 - Y) = cut a Y M1 := by unfold cut; rw [Int.toNat_natCast, Int.toNat_natCast, hy2, Nat.add_sub_cancel_left]
  have e2 : (b.drop Z).take (z2 - Z) = cut b Z M2 := by unfold cut; rw [Int.toNat_natCast, Int.toNat_natCast, hz2, Nat.add_sub_cancel_left]
  rw [e1] at v1
  rw [e2] at v2
  obtain ⟨A1, hA1⟩ : ∃ z, z = (if ca = Y then Aa else Aa.map (·.add Y)) := ⟨_, rfl⟩
  obtain ⟨A2, hA2⟩ : ∃ z, z = (if cb = Z then Ab else Ab.map (·.add Z)) := ⟨_, rfl⟩
  rw [← hA1] at c1 v1
  rw [← hA2] at c2 v2
  have l1 : (cut a Y M1).length = y2 - Y := by rw [← e1, List.length_take, List.length_drop]; omega
  have l2 : (cut b Z M2).length = z2 - Z := by rw [← e2, List.length_take, List.length_drop]; omega
  have HX := hide (texts_any (cut a Y M1) (cut b Z M2) A1 A2 (ca - Y) (cb - Z) _ _ w.drew (show Vs w.drew _ _ _ _ from v1) (show Vs w.drew _ _ _ _ from v2) (by omega))
  rw [l1, l2] at HX
  obtain ⟨dd, hdd⟩ : ∃ z, z = decide (cut a Y M1 = cut b Z M2) := ⟨_, rfl⟩
  rw [← hdd] at HX HF
  have Hr := hide hr
  clear hr hva hvb hna hnb hY hZ hsm hca hcb hy2 hz2 v1 v2 e1 e2 hA1 hA2 l1 l2 hdd
  refine Rd.wp_region_tree (fun w' => w'.cell? ⟨q, 4, none⟩ = some (.int .i64 M1) ∧ w'.cell? ⟨q, 6, none⟩ = some (.int .i64 M2)) (.take 0 (.take 1 (.take 2 (.take 3 (.take 4 (.take 5 (.take 6 (.take 7 (.take 8 (.take 9 (.take 10 (.take 11 (.take 12 (.take 13 (.take 14 (.take 15 (.one 16 (.take 17 .leaf)))))))))))))))))) (by kernel_rfl) (by kernel_rfl) ?_
  generalize hl : List.cons _ _ = lo
  have H0 := congrArg (fun l => List.getD l 0 default) hl.symm
  simp only [List.getD_cons_zero] at H0
  replace H0 := hide H0
  have H1 := congrArg (fun l => List.getD l 1 default) hl.symm
  simp only [List.getD_cons_zero, List.getD_cons_succ] at H1
  replace H1 := hide H1
  have H2 := congrArg (fun l => List.getD l 2 default) hl.symm
  simp only [List.getD_cons_zero, List.getD_cons_succ] at H2
  replace H2 := hide H2
  have H3 := congrArg (fun l => List.getD l 3 default) hl.symm
  simp only [List.getD_cons_zero, List.getD_cons_succ] at H3
  replace H3 := hide H3
  have H4 := congrArg (fun l => List.getD l 4 default) hl.symm
  simp only [List.getD_cons_zero, List.getD_cons_succ] at H4
  replace H4 := hide H4
  have H5 := congrArg (fun l => List.getD l 5 default) hl.symm
  simp only [List.getD_cons_zero, List.getD_cons_succ] at H5
  replace H5 := hide H5
  have H6 := congrArg (fun l => List.getD l 6 default) hl.symm
  simp only [List.getD_cons_zero, List.getD_cons_succ] at H6
  replace H6 := hide H6
  have H7 := congrArg (fun l => List.getD l 7 default) hl.symm
  simp only [List.getD_cons_zero, List.getD_cons_succ] at H7
  replace H7 := hide H7
  have H8 := congrArg (fun l => List.getD l 8 default) hl.symm
  simp only [List.getD_cons_zero, List.getD_cons_succ] at H8
  replace H8 := hide H8
  have H9 := congrArg (fun l => List.getD l 9 default) hl.symm
  simp only [List.getD_cons_zero, List.getD_cons_succ] at H9
  replace H9 := hide H9
  have H10 := congrArg (fun l => List.getD l 10 default) hl.symm
  simp only [List.getD_cons_zero, List.getD_cons_succ] at H10
  replace H10 := hide H10
  have H11 := congrArg (fun l => List.getD l 11 default) hl.symm
  simp only [List.getD_cons_zero, List.getD_cons_succ] at H11
  replace H11 := hide H11
  have H12 := congrArg (fun l => List.getD l 12 default) hl.symm
  simp only [List.getD_cons_zero, List.getD_cons_succ] at H12
  replace H12 := hide H12
  have H13 := congrArg (fun l => List.getD l 13 default) hl.symm
  simp only [List.getD_cons_zero, List.getD_cons_succ] at H13
  replace H13 := hide H13
  have H14 := congrArg (fun l => List.getD l 14 default) hl.symm
  simp only [List.getD_cons_zero, List.getD_cons_succ] at H14
  replace H14 := hide H14
  have H15 := congrArg (fun l => List.getD l 15 default) hl.symm
  simp only [List.getD_cons_zero, List.getD_cons_succ] at H15
  replace H15 := hide H15
  have H16 := congrArg (fun l => List.getD l 16 default) hl.symm
  simp only [List.getD_cons_zero, List.getD_cons_succ] at H16
  replace H16 := hide H16
  have H17 := congrArg (fun l => List.getD l 17 default) hl.symm
  simp only [List.getD_cons_zero, List.getD_cons_succ] at H17
  replace H17 := hide H17
  clear hl
  refine Rk.tree_quiet (v := ?_) H0.out rfl (fun w' hS => ?_) ⟨q4, q6⟩ ?_; rotate_left; (obtain ⟨s4, s6⟩ := hS; go_simp; with_reducible rfl); simp only [Act.put, List.setIfInBounds_toArray, List.set_cons_succ, List.set_cons_zero]
  refine Rk.tree_quiet (v := ?_) H1.out rfl (fun w' hS => ?_) ⟨q4, q6⟩ ?_; rotate_left; (obtain ⟨s4, s6⟩ := hS; go_simp; with_reducible rfl); simp only [Act.put, List.setIfInBounds_toArray, List.set_cons_succ, List.set_cons_zero]
  refine Rk.tree_quiet (v := ?_) H2.out rfl (fun w' hS => ?_) ⟨q4, q6⟩ ?_; rotate_left; (obtain ⟨s4, s6⟩ := hS; go_simp; with_reducible rfl); simp only [Act.put, List.setIfInBounds_toArray, List.set_cons_succ, List.set_cons_zero]
  refine Rk.tree_quiet (v := ?_) H3.out rfl (fun w' hS => ?_) ⟨q4, q6⟩ ?_; rotate_left; (obtain ⟨s4, s6⟩ := hS; go_simp; with_reducible rfl); simp only [Act.put, List.setIfInBounds_toArray, List.set_cons_succ, List.set_cons_zero]
  refine Rk.tree_quiet (v := ?_) H4.out rfl (fun w' hS => ?_) ⟨q4, q6⟩ ?_; rotate_left; (obtain ⟨s4, s6⟩ := hS; go_simp; with_reducible rfl); simp only [Act.put, List.setIfInBounds_toArray, List.set_cons_succ, List.set_cons_zero]
  refine Rk.tree_quiet (v := ?_) H5.out rfl (fun w' hS => ?_) ⟨q4, q6⟩ ?_; rotate_left; (obtain ⟨s4, s6⟩ := hS; go_simp; with_reducible rfl); simp only [Act.put, List.setIfInBounds_toArray, List.set_cons_succ, List.set_cons_zero]
  refine Rk.tree_quiet (v := ?_) H6.out rfl (fun w' hS => ?_) ⟨q4, q6⟩ ?_; rotate_left; (obtain ⟨s4, s6⟩ := hS; go_simp; with_reducible rfl); simp only [Act.put, List.setIfInBounds_toArray, List.set_cons_succ, List.set_cons_zero]
  refine Rk.tree_quiet (v := ?_) H7.out rfl (fun w' hS => ?_) ⟨q4, q6⟩ ?_; rotate_left; (obtain ⟨s4, s6⟩ := hS; go_simp; with_reducible rfl); simp only [Act.put, List.setIfInBounds_toArray, List.set_cons_succ, List.set_cons_zero]
  refine Rk.tree_quiet (v := ?_) H8.out rfl (fun w' hS => ?_) ⟨q4, q6⟩ ?_; rotate_left; (obtain ⟨s4, s6⟩ := hS; go_simp; with_reducible rfl); simp only [Act.put, List.setIfInBounds_toArray, List.set_cons_succ, List.set_cons_zero]
  refine Rk.tree_quiet (v := ?_) H9.out rfl (fun w' hS => ?_) ⟨q4, q6⟩ ?_; rotate_left; (obtain ⟨s4, s6⟩ := hS; go_simp; with_reducible rfl); simp only [Act.put, List.setIfInBounds_toArray, List.set_cons_succ, List.set_cons_zero]
  refine Rk.tree_quiet (v := ?_) H10.out rfl (fun w' hS => ?_) ⟨q4, q6⟩ ?_; rotate_left; (obtain ⟨s4, s6⟩ := hS; go_simp; with_reducible rfl); simp only [Act.put, List.setIfInBounds_toArray, List.set_cons_succ, List.set_cons_zero]
  refine Rk.tree_quiet (v := ?_) H11.out rfl (fun w' hS => ?_) ⟨q4, q6⟩ ?_; rotate_left; (obtain ⟨s4, s6⟩ := hS; go_simp; with_reducible rfl); simp only [Act.put, List.setIfInBounds_toArray, List.set_cons_succ, List.set_cons_zero]
  refine Rk.tree_quiet (v := ?_) H12.out rfl (fun w' hS => ?_) ⟨q4, q6⟩ ?_; rotate_left; (obtain ⟨s4, s6⟩ := hS; go_simp; with_reducible rfl); simp only [Act.put, List.setIfInBounds_toArray, List.set_cons_succ, List.set_cons_zero]
  refine Rk.tree_quiet (v := ?_) H13.out rfl (fun w' hS => ?_) ⟨q4, q6⟩ ?_; rotate_left; (obtain ⟨s4, s6⟩ := hS; go_simp; with_reducible rfl); simp only [Act.put, List.setIfInBounds_toArray, List.set_cons_succ, List.set_cons_zero]
  refine Rk.tree_quiet (v := ?_) H14.out rfl (fun w' hS => ?_) ⟨q4, q6⟩ ?_; rotate_left; (obtain ⟨s4, s6⟩ := hS; go_simp; with_reducible rfl); simp only [Act.put, List.setIfInBounds_toArray, List.set_cons_succ, List.set_cons_zero]
  refine Rk.tree_quiet (v := ?_) H15.out rfl (fun w' hS => ?_) ⟨q4, q6⟩ ?_; rotate_left; (obtain ⟨s4, s6⟩ := hS; go_simp; with_reducible rfl); simp only [Act.put, List.setIfInBounds_toArray, List.set_cons_succ, List.set_cons_zero]
  refine Rk.tree_one H16.out rfl (fun K hK => ?_)
  go_simp
  refine HX.out.mono ?_
  rintro y wx ⟨rfl, hbx⟩
  have hbx' : Below w.heap.size w wx := (Below.refl w.heap.size w).drew.trans hbx
  have hrx := Hr.out.below hbx' Hr.out.lt
  have g4 := hrx.cell 4
  have g6 := hrx.cell 6
  simp only [List.getElem?_cons_zero, List.getElem?_cons_succ] at g4 g6
  refine hK _ _ (fun _ => ⟨g4, g6⟩) ?_
  clear hK K
  refine Rk.tree_quiet (v := ?_) H17.out rfl (fun w' hS => ?_) ⟨g4, g6⟩ ?_; rotate_left; (obtain ⟨s4, s6⟩ := hS; go_simp; with_reducible rfl); simp only [Act.put, List.setIfInBounds_toArray, List.set_cons_succ, List.set_cons_zero]
  refine Rd.tree_leaf ?_
  exact HF.out _ _ _ _ _ _ _ _ _ _ _ _ _ _ _ _ _ wx hbx'

end Go.Proofs.Ytghnieddokhagaa.Al
