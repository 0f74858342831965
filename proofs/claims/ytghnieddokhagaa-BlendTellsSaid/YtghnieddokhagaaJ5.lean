/-
  The reference's Regions.
-/
import Derived.BigQuiet
import Derived.Test.YtghnieddokhagaaJ4
import Derived.Test.YtghnieddokhagaaQKE
import Derived.Test.YtghnieddokhagaaFH
namespace Go.Proofs.Ytghnieddokhagaa.Al
open Go Go.RowKit Kt Kg Lw Li Df Kf

theorem OwE.blk {w : World} {B : Nat} {v : Value} {L : List Ed} (h : OwE w B v L) : ∀ g, v.ownBlock = some g → ∃ cs, Row w g tE cs := by
  intro g hg
  obtain ⟨V, _, hr, _⟩ := h
  rcases hr.2 with ⟨rfl, _⟩ | ⟨g', cap, cur, rfl, _, hgg, _⟩
  · cases hg
  · cases hg; exact ⟨cur.toList, by unfold Row; simpa using hgg⟩
theorem OwR.blk {w : World} {B : Nat} {v : Value} {L : List Rg} (h : OwR w B v L) : ∀ g, v.ownBlock = some g → ∃ cs, Row w g tR cs := by
  intro g hg
  rcases h.2 with ⟨rfl, _⟩ | ⟨g', cap, cur, rfl, _, hgg, _⟩
  · cases hg
  · cases hg; exact ⟨cur.toList, by unfold Row; simpa using hgg⟩
theorem OwN.blk {w : World} {B : Nat} {E : TypeId} {v : Value} {L : List Int} (h : OwN w B E v L) : ∀ g, v.ownBlock = some g → ∃ cs, Row w g E cs := by
  intro g hg
  rcases h.2 with ⟨rfl, _⟩ | ⟨g', cap, cur, rfl, _, hgg, _⟩
  · cases hg
  · cases hg; exact ⟨cur.toList, by unfold Row; simpa using hgg⟩
theorem owt_blk {w : World} {B : Nat} {E : TypeId} {v : Value} {L : Ls} (h : OwT w B E v L) : ∀ g, v.ownBlock = some g → ∃ cs, Row w g E cs := by
  intro g hg
  rcases h.2 with ⟨rfl, _⟩ | ⟨g', cap, cur, rfl, _, hgg, _⟩
  · cases hg
  · cases hg; exact ⟨cur.toList, by unfold Row; simpa using hgg⟩
theorem row_oth {w w' : World} {B : Nat} {e : TypeId} {size n : Nat} {v : Value} {xs : List Value} {S : Nat → Prop} (h : w.ownsRow B e size v n xs) (ho : Oth S w w') (hS : ∀ g, v.ownBlock = some g → ¬ S g) : w'.ownsRow B e size v n xs := by
  refine ⟨h.1, ?_⟩
  rcases h.2 with ⟨h1, h2⟩ | ⟨g, cap, cur, hv', h1, h2, h3⟩
  · exact .inl ⟨h1, h2⟩
  · exact .inr ⟨g, cap, cur, hv', h1, (ho.block g (Array.getElem?_eq_some_iff.1 h2).1 (hS g (by rw [hv']; rfl))).trans h2, h3⟩
/-- only rows of regions turn -/
def TyR (w : World) (S : Nat → Prop) : Prop := ∀ k t cs, S k → Row w k t cs → t = tR
theorem owe_oth {w w' : World} {B : Nat} {v : Value} {L : List Ed} {S : Nat → Prop} (h : OwE w B v L) (ho : Oth S w w') (hS : TyR w S) : OwE w' B v L := by
  have hb := OwE.blk h
  obtain ⟨V, hV, hr, hi⟩ := h
  refine ⟨V, hV, row_oth hr ho fun g hg hs => ?_, fun p hp => row_oth (hi p hp) ho fun g hg hs => ?_⟩
  · obtain ⟨cs, hc⟩ := hb g hg
    have := hS g _ _ hs hc
    simp [tE, tR] at this
  · obtain ⟨cs, hc⟩ := owt_blk (hi p hp) g hg
    have := hS g _ _ hs hc
    simp [tS, tR] at this
theorem own_oth {w w' : World} {B : Nat} {v : Value} {L : List Int} {S : Nat → Prop} (h : OwN w B tI v L) (ho : Oth S w w') (hS : TyR w S) : OwN w' B tI v L :=
  row_oth h ho fun g hg hs => by
    obtain ⟨cs, hc⟩ := OwN.blk h g hg
    have := hS g _ _ hs hc
    simp [tI, tR] at this
theorem own_base {w : World} {B B' : Nat} {E : TypeId} {v : Value} {l : List Int} (h : OwN w B E v l) (hb : B' ≤ B) : OwN w B' E v l :=
  ⟨h.1, h.2.imp id fun ⟨g, cap, cur, hv', h1, h2⟩ => ⟨g, cap, cur, hv', Nat.le_trans hb h1, h2⟩⟩
def lenV : Value → Nat
  | .slice _ n _ => n
  | _ => 0
theorem OwR.lenV {w : World} {B : Nat} {v : Value} {L : List Rg} (h : OwR w B v L) : lenV v = L.length := by
  obtain ⟨A, c, rfl, _⟩ := h.rgs
  rfl
theorem owe_empty (w : World) (B : Nat) (hB : B ≤ w.heap.size) : OwE (w.alloc (.cells #[] tE)) B (.slice (some ⟨w.heap.size, 0, none⟩) 0 0) [] :=
  ⟨[], rfl, World.ownsRow_lit (e := tE) (size := 3) w #[] 0 hB (Nat.zero_le _) rfl, fun p h => by cases h⟩
theorem app_at (F G : List Ed) (x : Nat) : (F ++ G).getD x ⟨0, 0, []⟩ = (el F G x).2 := by
  by_cases h : x < F.length
  · rw [el_left h, List.getD_eq_getElem?_getD, List.getElem?_append_left h, List.getD_eq_getElem?_getD]
  · rw [el_right h, List.getD_eq_getElem?_getD, List.getElem?_append_right (by omega), List.getD_eq_getElem?_getD]
theorem app_lay (F G : List Ed) : F ++ G = lay (F.length + G.length) fun i => (el F G i).2 := by
  have h := congrArg (List.map (·.2)) (range_els F G)
  rw [List.map_append, List.map_map, List.map_map, List.map_map] at h
  unfold lay
  simp only [Function.comp_def, List.map_id'] at h
  exact h.symm
/-- the edits, those gone through marked -/
def cur (F G : List Ed) (U : Nat → Bool) (i : Nat) : Ed := if U i = true then neg (el F G i).2 else (el F G i).2
/-- what holds where a round begins -/
structure RO (w0 wr : World) (o a b : Ls) (n : Nat) (v8 v9 v10 : Value) (R : List Int) (X Y Z : Nat) (V l : List (Bool × Ed)) (s : St) (U : Nat → Bool) : Prop where
  xyz : s.x = X ∧ s.y = Y ∧ s.z = Z
  inv : RInv o a b V s l
  lp : loop a b s l = loop a b ⟨0, 0, 0, []⟩ (mrg (D o a) (D o b))
  out : OwR wr w0.heap.size v10 s.l
  eds : OwE wr w0.heap.size v8 (lay n (cur (D o a) (D o b) U))
  mks : OwN wr w0.heap.size tI v9 R
  use : ∀ i, i < n → (U i = true ↔ el (D o a) (D o b) i ∈ V)
  low : Below w0.heap.size w0 wr
  cnt : s.l.length + 2 * l.length ≤ 2 * n
theorem kd_is {x y ss : Bool} {c : Cl} {u v : Ls} (h1 : x = true ↔ c.n0 ≠ 0) (h2 : y = true ↔ c.n1 ≠ 0) (h3 : c.n0 ≠ 0 ∨ c.n1 ≠ 0) (hs : ss = decide (u = v)) : (if x = false then (2 : Int) else if y = false then 1 else if ss = true then 3 else 4) = kindOf c u v := by
  unfold kindOf
  cases x
  · have n0 : c.n0 = 0 := by simpa using h1
    have n1 : c.n1 ≠ 0 := by omega
    simp [n0, n1]
  · have n0 : c.n0 ≠ 0 := h1.1 rfl
    cases y
    · have n1 : c.n1 = 0 := by simpa using h2
      simp [n0, n1]
    · have n1 : c.n1 ≠ 0 := h2.1 rfl
      simp [n0, n1, hs]
set_option maxRecDepth 100000 in
set_option maxHeartbeats 4000000 in
theorem rg_tail {N Y Z f q g8 c8 gm cm p tt M1 M2 B0 : Nat} {t k0 : Int} {v10 : Value} {one two ss : Bool} {l : List Rg} {φ : Nat → Ed} {C : Nat → Bool} {R : List Int} {w : World} {B : Code} {K : Act → World → Prop} {Q' : Exit → Act → World → Prop} (x0 x1 x2 x3 x4 x5 x6 x7 x11 x15 x16 x17 x22 x24 x25 x26 x27 x28 x29 x30 x31 x32 x33 x34 x35 x36 x37 x38 x39 x40 x41 x42 x43 x44 x45 x46 x47 x48 x49 x50 x51 x52 x53 x54 x55 x56 x57 x58 x59 x60 x61 x62 x63 x64 x65 x66 x67 x68 x69 x70 x71 x72 x73 x74 x75 x76 x77 x78 x79 x80 x81 x82 x83 x84 x85 x86 x87 x88 x89 x90 x91 x92 x93 x94 x95 x96 x97 x98 x99 x100 x101 x102 x103 x104 x105 x106 x107 x108 x109 x110 x111 x112 x113 x114 x115 x116 x117 x118 x119 x120 x121 x122 x123 x124 x125 x126 x127 x128 x129 x130 x131 x132 x133 x134 x135 x136 x137 x138 x139 x140 x141 x142 x143 x144 x145 x146 x147 x148 x149 x150 x151 x152 x153 x154 x155 x156 x157 x158 x159 x160 x161 x162 x163 x164 x165 x166 x167 x168 x169 x170 x171 x172 x173 x174 x175 x176 x177 x178 x179 x180 x181 x182 x183 x184 x185 x186 x187 x188 x189 x190 x191 x192 x193 x194 x195 x196 x197 x198 x199 x200 x201 x202 x203 x204 x205 x206 x207 x208 x209 x210 x211 x212 x213 x214 x215 x216 x217 x218 x219 x220 x221 x222 x223 x224 x225 x226 x227 x228 x229 x230 x231 x232 x233 x234 x235 x236 x237 x238 x239 x240 x241 x242 x243 x244 x245 x246 x247 x248 x249 x250 x251 x252 x253 x254 x255 x256 x257 x258 x259 x260 x261 x262 x263 x264 x265 x266 x267 x268 x269 x270 x271 x272 x273 x274 x275 x276 x277 : Value)
    (hB : B = (findS 42 (Try.f46.body.getD .skip)).getD .skip) (hr : Row w q tR [.int .i64 k0, .int .i64 p, .int .i64 tt, .int .i64 Y, .int .i64 M1, .int .i64 Z, .int .i64 M2]) (hout : OwR w B0 v10 l) (hB0 : B0 ≤ w.heap.size) (hB8 : B0 ≤ g8) (hBq : B0 ≤ q) (heds : OwE w B0 (.slice (some ⟨g8, 0, none⟩) N c8) (lay N φ)) (hmks : OwN w B0 tI (.slice (some ⟨gm, 0, none⟩) N cm) R)
    (hmc : ∀ i, i < N → w.cell? ⟨gm, i, none⟩ = some (.int .i64 (R.getD i 0))) (hC : ∀ i, i < N → (R.getD i 0 = R.getD f 0 ↔ C i = true)) (hf : f < N) (hqo : ∀ k, v10.ownBlock = some k → k ≠ q) (hgg : gm ≠ g8) (hcnt : l.length + 1 ≤ 1000000000) (hN : N ≤ 2000) (hYZ : Y + M1 ≤ 1000000 ∧ Z + M2 ≤ 1000000)
    (hK : ∀ (u24 u225 u226 u227 u228 u229 u230 u231 u232 u233 u234 u235 u236 u237 u238 u239 u240 u241 u242 u243 u244 u245 u246 u247 u248 u249 u250 u251 u252 u253 u254 u255 u256 u257 u258 u259 u260 u261 u262 u263 u264 u265 u266 u267 u268 u269 u270 u271 u272 u273 u274 u275 u276 : Value) (v' : Value) (wx : World), OwR wx B0 v' (l ++ [⟨if one = false then 2 else if two = false then 1 else if ss = true then 3 else 4, p, tt, Y, M1, Z, M2⟩]) → OwE wx B0 (.slice (some ⟨g8, 0, none⟩) N c8) (lay N (fun j => if j = f then neg (used φ C f N f) else used φ C f N j)) → OwN wx B0 tI (.slice (some ⟨gm, 0, none⟩) N cm) R → Below B0 w wx → K { tmps := List.toArray (x0 :: x1 :: x2 :: x3 :: x4 :: x5 :: x6 :: x7 :: (.slice (some ⟨g8, 0, none⟩) N c8) :: (.slice (some ⟨gm, 0, none⟩) N cm) :: (v') :: (.int .i64 t) :: (.int .i64 (Y + M1 : Nat)) :: (.int .i64 (Z + M2 : Nat)) :: (.int .i64 f) :: x15 :: x16 :: x17 :: (.pointer (some ⟨q, 0, none⟩)) :: (.int .i64 t) :: (.bool one) :: (.bool two) :: x22 :: (.bool ss) :: (u24) :: x25 :: x26 :: x27 :: x28 :: x29 :: x30 :: x31 :: x32 :: x33 :: x34 :: x35 :: x36 :: x37 :: x38 :: x39 :: x40 :: x41 :: x42 :: x43 :: x44 :: x45 :: x46 :: x47 :: x48 :: x49 :: x50 :: x51 :: x52 :: x53 :: x54 :: x55 :: x56 :: x57 :: x58 :: x59 :: x60 :: x61 :: x62 :: x63 :: x64 :: x65 :: x66 :: x67 :: x68 :: x69 :: x70 :: x71 :: x72 :: x73 :: x74 :: x75 :: x76 :: x77 :: x78 :: x79 :: x80 :: x81 :: x82 :: x83 :: x84 :: x85 :: x86 :: x87 :: x88 :: x89 :: x90 :: x91 :: x92 :: x93 :: x94 :: x95 :: x96 :: x97 :: x98 :: x99 :: x100 :: x101 :: x102 :: x103 :: x104 :: x105 :: x106 :: x107 :: x108 :: x109 :: x110 :: x111 :: x112 :: x113 :: x114 :: x115 :: x116 :: x117 :: x118 :: x119 :: x120 :: x121 :: x122 :: x123 :: x124 :: x125 :: x126 :: x127 :: x128 :: x129 :: x130 :: x131 :: x132 :: x133 :: x134 :: x135 :: x136 :: x137 :: x138 :: x139 :: x140 :: x141 :: x142 :: x143 :: x144 :: x145 :: x146 :: x147 :: x148 :: x149 :: x150 :: x151 :: x152 :: x153 :: x154 :: x155 :: x156 :: x157 :: x158 :: x159 :: x160 :: x161 :: x162 :: x163 :: x164 :: x165 :: x166 :: x167 :: x168 :: x169 :: x170 :: x171 :: x172 :: x173 :: x174 :: x175 :: x176 :: x177 :: x178 :: x179 :: x180 :: x181 :: x182 :: x183 :: x184 :: x185 :: x186 :: x187 :: x188 :: x189 :: x190 :: x191 :: x192 :: x193 :: x194 :: x195 :: x196 :: x197 :: x198 :: x199 :: x200 :: x201 :: x202 :: x203 :: x204 :: x205 :: x206 :: x207 :: x208 :: x209 :: x210 :: x211 :: x212 :: x213 :: x214 :: x215 :: x216 :: x217 :: x218 :: x219 :: x220 :: x221 :: x222 :: x223 :: x224 :: (u225) :: (u226) :: (u227) :: (u228) :: (u229) :: (u230) :: (u231) :: (u232) :: (u233) :: (u234) :: (u235) :: (u236) :: (u237) :: (u238) :: (u239) :: (u240) :: (u241) :: (u242) :: (u243) :: (u244) :: (u245) :: (u246) :: (u247) :: (u248) :: (u249) :: (u250) :: (u251) :: (u252) :: (u253) :: (u254) :: (u255) :: (u256) :: (u257) :: (u258) :: (u259) :: (u260) :: (u261) :: (u262) :: (u263) :: (u264) :: (u265) :: (u266) :: (u267) :: (u268) :: (u269) :: (u270) :: (u271) :: (u272) :: (u273) :: (u274) :: (u275) :: (u276) :: x277 :: []), defers := [] } wx) :
    Code.wp Try.prog B (Exit.then K Q') { tmps := List.toArray (x0 :: x1 :: x2 :: x3 :: x4 :: x5 :: x6 :: x7 :: (.slice (some ⟨g8, 0, none⟩) N c8) :: (.slice (some ⟨gm, 0, none⟩) N cm) :: (v10) :: x11 :: (.int .i64 Y) :: (.int .i64 Z) :: (.int .i64 f) :: x15 :: x16 :: x17 :: (.pointer (some ⟨q, 0, none⟩)) :: (.int .i64 t) :: (.bool one) :: (.bool two) :: x22 :: (.bool ss) :: x24 :: x25 :: x26 :: x27 :: x28 :: x29 :: x30 :: x31 :: x32 :: x33 :: x34 :: x35 :: x36 :: x37 :: x38 :: x39 :: x40 :: x41 :: x42 :: x43 :: x44 :: x45 :: x46 :: x47 :: x48 :: x49 :: x50 :: x51 :: x52 :: x53 :: x54 :: x55 :: x56 :: x57 :: x58 :: x59 :: x60 :: x61 :: x62 :: x63 :: x64 :: x65 :: x66 :: x67 :: x68 :: x69 :: x70 :: x71 :: x72 :: x73 :: x74 :: x75 :: x76 :: x77 :: x78 :: x79 :: x80 :: x81 :: x82 :: x83 :: x84 :: x85 :: x86 :: x87 :: x88 :: x89 :: x90 :: x91 :: x92 :: x93 :: x94 :: x95 :: x96 :: x97 :: x98 :: x99 :: x100 :: x101 :: x102 :: x103 :: x104 :: x105 :: x106 :: x107 :: x108 :: x109 :: x110 :: x111 :: x112 :: x113 :: x114 :: x115 :: x116 :: x117 :: x118 :: x119 :: x120 :: x121 :: x122 :: x123 :: x124 :: x125 :: x126 :: x127 :: x128 :: x129 :: x130 :: x131 :: x132 :: x133 :: x134 :: x135 :: x136 :: x137 :: x138 :: x139 :: x140 :: x141 :: x142 :: x143 :: x144 :: x145 :: x146 :: x147 :: x148 :: x149 :: x150 :: x151 :: x152 :: x153 :: x154 :: x155 :: x156 :: x157 :: x158 :: x159 :: x160 :: x161 :: x162 :: x163 :: x164 :: x165 :: x166 :: x167 :: x168 :: x169 :: x170 :: x171 :: x172 :: x173 :: x174 :: x175 :: x176 :: x177 :: x178 :: x179 :: x180 :: x181 :: x182 :: x183 :: x184 :: x185 :: x186 :: x187 :: x188 :: x189 :: x190 :: x191 :: x192 :: x193 :: x194 :: x195 :: x196 :: x197 :: x198 :: x199 :: x200 :: x201 :: x202 :: x203 :: x204 :: x205 :: x206 :: x207 :: x208 :: x209 :: x210 :: x211 :: x212 :: x213 :: x214 :: x215 :: x216 :: x217 :: x218 :: x219 :: x220 :: x221 :: x222 :: x223 :: x224 :: x225 :: x226 :: x227 :: x228 :: x229 :: x230 :: x231 :: x232 :: x233 :: x234 :: x235 :: x236 :: x237 :: x238 :: x239 :: x240 :: x241 :: x242 :: x243 :: x244 :: x245 :: x246 :: x247 :: x248 :: x249 :: x250 :: x251 :: x252 :: x253 :: x254 :: x255 :: x256 :: x257 :: x258 :: x259 :: x260 :: x261 :: x262 :: x263 :: x264 :: x265 :: x266 :: x267 :: x268 :: x269 :: x270 :: x271 :: x272 :: x273 :: x274 :: x275 :: x276 :: x277 :: []), defers := [] } w := by
  have HF := hide hK
  clear hK
  subst hB
  conv => arg 2; whnf
  generalize hB43 : Code.seq (Code.region 43 _ _) _ = B43
  generalize hB45 : Code.seq (Code.region 45 _ _) _ = B45
  generalize hB47 : Code.seq (Code.region 47 _ _) _ = B47
  generalize hB6 : Code.block 6 _ = B6
  have HB43 := hide hB43
  have HB45 := hide hB45
  have HB47 := hide hB47
  have HB6 := hide hB6
  clear hB43 hB45 hB47 hB6
  have k0' := hr.cell 0
  have f0 := hr.free 0
  simp only [List.getElem?_cons_zero] at k0'
  have hr6 : Row (w.setCell ⟨q, 0, none⟩ (.int .i64 4)) q tR [.int .i64 4, .int .i64 p, .int .i64 tt, .int .i64 Y, .int .i64 M1, .int .i64 Z, .int .i64 M2] := hr.put 0 (.int .i64 4)
  have ho6 := (Oth.refl (fun k => k = q) w).put (g := q) (i := 0) (.inl rfl) (.int .i64 4)
  obtain ⟨w6, hw6⟩ : ∃ w6, w6 = w.setCell ⟨q, 0, none⟩ (.int .i64 4) := ⟨_, rfl⟩
  rw [← hw6] at hr6 ho6
  have Hw6 := hide hw6
  have Hr6 := hide hr6
  have Ho6 := hide ho6
  have Hr := hide hr
  have Hout := hide hout
  have Heds := hide heds
  have Hmks := hide hmks
  have Hmc := hide hmc
  have Hqo := hide hqo
  have HB0 := hide hB0
  have HB8 := hide hB8
  have HBq := hide hBq
  have Hcnt := hide hcnt
  have HN := hide hN
  clear hw6 hr6 ho6 hr hout heds hmks hmc hqo hB0 hcnt hN hB8 hBq
  go_wp2
  rw [← Hw6.out]
  clear k0' f0
  rename_i KK hKK
  refine rg_k3 _ _ _ _ _ _ _ _ _ _ _ _ _ _ _ _ _ _ _ _ _ _ _ _ _ _ _ _ _ _ _ _ _ _ _ _ _ _ _ _ _ _ _ _ _ _ _ _ _ _ _ _ _ _ _ _ _ _ _ _ _ _ _ _ _ _ _ _ _ _ _ _ _ _ _ _ _ _ _ _ _ _ _ _ _ _ _ _ _ _ _ _ _ _ _ _ _ _ _ _ _ _ _ _ _ _ _ _ _ _ _ _ _ _ _ _ _ _ _ _ _ _ _ _ _ _ _ _ _ _ _ _ _ _ _ _ _ _ _ _ _ _ _ _ _ _ _ _ _ _ _ _ _ _ _ _ _ _ _ _ _ _ _ _ _ _ _ _ _ _ _ _ _ _ _ _ _ _ _ _ _ _ _ _ _ _ _ _ _ _ _ _ _ _ _ _ _ _ _ _ _ _ _ _ _ _ _ _ _ _ _ _ _ _ _ _ _ _ _ _ _ _ _ _ _ _ _ _ _ _ _ _ _ _ _ _ _ _ _ _ _ _ _ _ _ _ _ _ _ _ _ _ _ _ _ _ _ _ _ _ _ _ _ _ _ _ _ _ _ _ _ _ _ _ _ _ (by rw [← HB43.out]; kernel_rfl) Hr6.out ?_
  intro y226a y227a w7 hr7 ho7
  refine hKK _ _ ?_
  clear hKK KK
  go_wp2
  rename_i KK hKK
  refine rg_k1 _ _ _ _ _ _ _ _ _ _ _ _ _ _ _ _ _ _ _ _ _ _ _ _ _ _ _ _ _ _ _ _ _ _ _ _ _ _ _ _ _ _ _ _ _ _ _ _ _ _ _ _ _ _ _ _ _ _ _ _ _ _ _ _ _ _ _ _ _ _ _ _ _ _ _ _ _ _ _ _ _ _ _ _ _ _ _ _ _ _ _ _ _ _ _ _ _ _ _ _ _ _ _ _ _ _ _ _ _ _ _ _ _ _ _ _ _ _ _ _ _ _ _ _ _ _ _ _ _ _ _ _ _ _ _ _ _ _ _ _ _ _ _ _ _ _ _ _ _ _ _ _ _ _ _ _ _ _ _ _ _ _ _ _ _ _ _ _ _ _ _ _ _ _ _ _ _ _ _ _ _ _ _ _ _ _ _ _ _ _ _ _ _ _ _ _ _ _ _ _ _ _ _ _ _ _ _ _ _ _ _ _ _ _ _ _ _ _ _ _ _ _ _ _ _ _ _ _ _ _ _ _ _ _ _ _ _ _ _ _ _ _ _ _ _ _ _ _ _ _ _ _ _ _ _ _ _ _ _ _ _ _ _ _ _ _ _ _ _ _ _ _ _ _ _ _ (by rw [← HB45.out]; kernel_rfl) hr7 ?_
  intro y228a y229a y230a w8 hr8 ho8
  refine hKK _ _ ?_
  clear hKK KK
  go_wp2
  rename_i KK hKK
  refine rg_k2 _ _ _ _ _ _ _ _ _ _ _ _ _ _ _ _ _ _ _ _ _ _ _ _ _ _ _ _ _ _ _ _ _ _ _ _ _ _ _ _ _ _ _ _ _ _ _ _ _ _ _ _ _ _ _ _ _ _ _ _ _ _ _ _ _ _ _ _ _ _ _ _ _ _ _ _ _ _ _ _ _ _ _ _ _ _ _ _ _ _ _ _ _ _ _ _ _ _ _ _ _ _ _ _ _ _ _ _ _ _ _ _ _ _ _ _ _ _ _ _ _ _ _ _ _ _ _ _ _ _ _ _ _ _ _ _ _ _ _ _ _ _ _ _ _ _ _ _ _ _ _ _ _ _ _ _ _ _ _ _ _ _ _ _ _ _ _ _ _ _ _ _ _ _ _ _ _ _ _ _ _ _ _ _ _ _ _ _ _ _ _ _ _ _ _ _ _ _ _ _ _ _ _ _ _ _ _ _ _ _ _ _ _ _ _ _ _ _ _ _ _ _ _ _ _ _ _ _ _ _ _ _ _ _ _ _ _ _ _ _ _ _ _ _ _ _ _ _ _ _ _ _ _ _ _ _ _ _ _ _ _ _ _ _ _ _ _ _ _ _ _ _ _ _ _ _ (by rw [← HB47.out]; kernel_rfl) hr8 ?_
  intro y231a y232a y233a w9 hr9 ho9
  refine hKK _ _ ?_
  clear hKK KK
  have ho := ((Ho6.out.trans ho7 fun _ _ h => h).trans ho8 fun _ _ h => h).trans ho9 fun _ _ h => h
  obtain ⟨kd, hkd⟩ : ∃ kd : Int, kd = (if one = false then 2 else if two = false then 1 else if ss = true then 3 else 4) := ⟨_, rfl⟩
  rw [← hkd] at hr9 HF
  have hty : TyR w (fun k => k = q) := fun k t cs hk hrow => by subst hk; exact (hrow.uniq Hr.out).1
  have heds9 := owe_oth Heds.out ho hty
  have hmks9 := own_oth Hmks.out ho hty
  have hout9 : OwR w9 B0 v10 l := row_oth Hout.out ho Hqo.out
  have hgmq : gm ≠ q := by
    obtain ⟨cs, hrow⟩ := OwN.blk Hmks.out gm rfl
    intro e
    subst e
    have := (hrow.uniq Hr.out).1
    simp [tI, tR] at this
  have hmc9 : ∀ i, i < N → w9.cell? ⟨gm, i, none⟩ = some (.int .i64 (R.getD i 0)) := fun i hi =>
    (World.cell?_of_block (a := ⟨gm, i, none⟩) (ho.block gm (World.block_lt_of_cell? w ⟨gm, i, none⟩ (Hmc.out i hi)) hgmq)).trans (Hmc.out i hi)
  have Heds9 := hide heds9
  have Hmks9 := hide hmks9
  have Hout9 := hide hout9
  have Hmc9 := hide hmc9
  have Hb9 := hide (show Below B0 w w9 from ho.below (Below.refl _ _) HB0.out (fun k hk e => by have := HBq.out; omega))
  have q0 := hr9.cell 0
  have q1 := hr9.cell 1
  have q2 := hr9.cell 2
  have q3 := hr9.cell 3
  have q4 := hr9.cell 4
  have q5 := hr9.cell 5
  have q6 := hr9.cell 6
  simp only [List.getElem?_cons_zero, List.getElem?_cons_succ] at q0 q1 q2 q3 q4 q5 q6
  have Hr9 := hide hr9
  have HB9 := hide (show B0 ≤ w9.heap.size from Nat.le_trans HB0.out Hb9.out.size)
  obtain ⟨Y', hY'⟩ : ∃ z, z = Y + M1 := ⟨_, rfl⟩
  obtain ⟨Z', hZ'⟩ : ∃ z, z = Z + M2 := ⟨_, rfl⟩
  have wy : IntKind.i64.wrap ((Y : Int) + (M1 : Int)) = (Y' : Int) := by rw [IntWalk.i64_in _ (by omega)]; omega
  have wz : IntKind.i64.wrap ((Z : Int) + (M2 : Int)) = (Z' : Int) := by rw [IntWalk.i64_in _ (by omega)]; omega
  rw [← hY', ← hZ'] at HF
  clear hr7 ho7 hr8 ho8 hr9 ho9 ho hkd hty heds9 hmks9 hout9 hmc9 hgmq hY' hZ' hYZ
  go_wp2_with (refine wpList_pushR rfl (.tmp 234) (.tmp 236) rfl B0 w9 v10 l ⟨kd, p, tt, Y, M1, Z, M2⟩ _ rfl rfl rfl Hout9.out Hcnt.out (Below.refl _ _) HB9.out (fun v' w10 h1 h2 h3 => ?_); have r10 := Hr9.out.grown h3 (fun e => Hqo.out q e.symm rfl); have e4 := r10.cell 4; have e6 := r10.cell 6; simp only [List.getElem?_cons_zero, List.getElem?_cons_succ] at e4 e6; have H1 := hide h1; have H2 := hide h2; have H3 := hide h3; clear h1 h2 h3 r10 q0 q1 q2 q3 q4 q5 q6)
  have hty : TyR w9 (fun k => v10.ownBlock = some k) := fun k t cs hk hrow => by
    obtain ⟨cs', hrow'⟩ := OwR.blk Hout9.out k hk
    exact (hrow.uniq hrow').1
  have ho10 : Oth (fun k => v10.ownBlock = some k) w9 w10 := Oth.of_grown H3.out fun k e => e
  have heds10 := owe_oth Heds9.out ho10 hty
  have hmks10 := own_oth Hmks9.out ho10 hty
  have hgo : ¬ v10.ownBlock = some gm := fun e => by
    obtain ⟨cs, hrow⟩ := OwN.blk Hmks9.out gm rfl
    have := hty gm _ _ e hrow
    simp [tI, tR] at this
  have hmc10 : ∀ i, i < N → w10.cell? ⟨gm, i, none⟩ = some (.int .i64 (R.getD i 0)) := fun i hi =>
    (World.cell?_of_block (a := ⟨gm, i, none⟩) (ho10.block gm (World.block_lt_of_cell? w9 ⟨gm, i, none⟩ (Hmc9.out i hi)) hgo)).trans (Hmc9.out i hi)
  have Heds10 := hide heds10
  have Hmks10 := hide hmks10
  clear hty ho10 hgo e4 e6 heds10 hmks10
  rename_i KK hKK
  refine rg_used _ _ _ _ _ _ _ _ _ _ _ _ _ _ _ _ _ _ _ _ _ _ _ _ _ _ _ _ _ _ _ _ _ _ _ _ _ _ _ _ _ _ _ _ _ _ _ _ _ _ _ _ _ _ _ _ _ _ _ _ _ _ _ _ _ _ _ _ _ _ _ _ _ _ _ _ _ _ _ _ _ _ _ _ _ _ _ _ _ _ _ _ _ _ _ _ _ _ _ _ _ _ _ _ _ _ _ _ _ _ _ _ _ _ _ _ _ _ _ _ _ _ _ _ _ _ _ _ _ _ _ _ _ _ _ _ _ _ _ _ _ _ _ _ _ _ _ _ _ _ _ _ _ _ _ _ _ _ _ _ _ _ _ _ _ _ _ _ _ _ _ _ _ _ _ _ _ _ _ _ _ _ _ _ _ _ _ _ _ _ _ _ _ _ _ _ _ _ _ _ _ _ _ _ _ _ _ _ _ _ _ _ _ _ _ _ _ _ _ _ _ _ _ _ _ _ _ _ _ _ _ _ _ _ _ _ _ _ _ _ _ _ _ _ _ _ _ _ _ _ _ _ _ _ _ _ _ _ _ _ _ _ _ _ _ _ _ _ _ _ _ _ _ _ (by rw [← HB6.out]; kernel_rfl) Heds10.out HN.out hmc10 hgg hf hC ?_
  intro y249a y250a y251a y252a y253a y254a y255a y256a y257a y258a y259a y260a y261a y262a y263a y264a y265a y266a y267a y268a y269a y270a y271a y272a w11 heds11 ho11
  refine hKK _ _ ?_
  clear hKK KK hmc10
  obtain ⟨s1, s2, s3, s4⟩ := owe_neg heds11 (i := f) (by rw [lay_len]) (by rw [lay_len]; exact hf)
  rw [lay_at hf] at s1 s3
  rw [lay_set] at s1
  generalize (used φ C f N f).pos = zp at *
  have S1 := hide s1
  have S2 := hide (ho11.put (g := g8) (i := f * 3) (.inl rfl) (.int .i64 (-1)))
  obtain ⟨w12, hw12⟩ : ∃ w12, w12 = w11.setCell ⟨g8, f * 3, none⟩ (.int .i64 (-1)) := ⟨_, rfl⟩
  rw [← hw12] at S1 S2
  have Hw12 := hide hw12
  clear s1 s2 heds11 ho11 hw12
  go_wp2
  rw [← Hw12.out]
  refine HF.out _ _ _ _ _ _ _ _ _ _ _ _ _ _ _ _ _ _ _ _ _ _ _ _ _ _ _ _ _ _ _ _ _ _ _ _ _ _ _ _ _ _ _ _ _ _ _ _ _ _ _ _ _ v' w12 ?_ S1.out ?_ ?_
  · refine row_oth H1.out S2.out fun k hk e => ?_
    obtain ⟨cs1, r1⟩ := OwR.blk H1.out k hk
    obtain ⟨cs2, r2⟩ := OwE.blk Heds10.out g8 rfl
    subst e
    have := (r1.uniq r2).1
    simp [tR, tE] at this
  · refine row_oth Hmks10.out S2.out fun k hk e => ?_
    cases hk
    exact hgg e
  · exact S2.out.below (Hb9.out.trans H2.out) (Nat.le_trans HB9.out H3.out.size) (fun k hk e => by have := HB8.out; omega)

end Go.Proofs.Ytghnieddokhagaa.Al
