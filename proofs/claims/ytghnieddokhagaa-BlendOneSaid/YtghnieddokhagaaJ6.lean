/-
  The reference's Regions: a cluster.
-/
import Derived.BigQuiet
import Derived.Test.YtghnieddokhagaaJ5
namespace Go.Proofs.Ytghnieddokhagaa.Al
open Go Go.RowKit Kt Kg Lw Li Df Kf

set_option maxRecDepth 100000 in
set_option maxHeartbeats 4000000 in
theorem rg_rest {Ao Aa Ab A1 A8 : Option Addr} {no na nb co ca cb n1 c1 c8 N Y Z f X0 Y0 Z0 p t M1 M2 : Nat} {v9 v10 : Value} {o a b : Ls} {V : List (Bool × Ed)} {d : Bool} {e : Ed} {r : List (Bool × Ed)} {s : St} {c : Cl} {U : Nat → Bool} {R : List Int} {w0 : World} {w : World} {B : Code} {K : Act → World → Prop} {Q' : Exit → Act → World → Prop} (x3 x4 x5 x6 x11 x16 x17 x18 x19 x20 x21 x22 x23 x24 x25 x26 x27 x28 x29 x30 x31 x32 x33 x34 x35 x36 x37 x38 x39 x40 x41 x42 x43 x44 x45 x46 x47 x48 x49 x50 x51 x52 x53 x54 x55 x56 x57 x58 x59 x60 x61 x62 x63 x64 x65 x66 x67 x68 x69 x70 x71 x72 x73 x74 x75 x76 x77 x78 x79 x80 x81 x82 x83 x84 x85 x86 x87 x88 x89 x90 x91 x92 x93 x94 x95 x96 x97 x98 x99 x100 x101 x102 x103 x104 x105 x106 x107 x108 x109 x110 x111 x112 x113 x114 x115 x116 x117 x118 x119 x120 x121 x122 x123 x124 x125 x126 x127 x128 x129 x130 x131 x132 x133 x134 x135 x136 x137 x138 x139 x140 x141 x142 x143 x144 x145 x146 x147 x148 x149 x150 x151 x152 x153 x154 x155 x156 x157 x158 x159 x160 x161 x162 x163 x164 x165 x166 x167 x168 x169 x170 x171 x172 x173 x174 x175 x176 x177 x178 x179 x180 x181 x182 x183 x184 x185 x186 x187 x188 x189 x190 x191 x192 x193 x194 x195 x196 x197 x198 x199 x200 x201 x202 x203 x204 x205 x206 x207 x208 x209 x210 x211 x212 x213 x214 x215 x216 x217 x218 x219 x220 x221 x222 x223 x224 x225 x226 x227 x228 x229 x230 x231 x232 x233 x234 x235 x236 x237 x238 x239 x240 x241 x242 x243 x244 x245 x246 x247 x248 x249 x250 x251 x252 x253 x254 x255 x256 x257 x258 x259 x260 x261 x262 x263 x264 x265 x266 x267 x268 x269 x270 x271 x272 x273 x274 x275 x276 x277 : Value)
    (hB : B = (findS 24 (Try.f46.body.getD .skip)).getD .skip) (ht : Trio w0 Ao Aa Ab co ca cb o a b) (hsm : o.length ≤ 700 ∧ a.length ≤ 700 ∧ b.length ≤ 700) (hlow : Below w0.heap.size w0 w) (hI : RInv o a b V s ((d, e) :: r)) (hc : c = clo d e r) (hz : Szs o a b s c X0 Y0 Z0 p t M1 M2) (hY : Y = Y0 + (p - X0)) (hZ : Z = Z0 + (p - X0))
    (hout : OwR w w0.heap.size v10 (s.keep a b p).l) (heds : OwE w w0.heap.size (.slice A8 N c8) (lay N (cur (D o a) (D o b) U))) (hmks : OwN w w0.heap.size tI v9 R) (hMk : Mk N (fun x y => meetE (el (D o a) (D o b) x).2 (el (D o a) (D o b) y).2) N 0 0 R) (hU : ∀ i, i < N → (U i = true ↔ el (D o a) (D o b) i ∈ V))
    (hN : N = (D o a).length + (D o b).length) (hN2 : N ≤ 1402) (hf : f < N) (hfC : el (D o a) (D o b) f ∈ clu d e r) (hn1 : n1 = (D o a).length) (hcnt : (s.keep a b p).l.length + 1 ≤ 1000000000) (hln : no = o.length ∧ na = a.length ∧ nb = b.length)
    (hK : ∀ (u18 u19 u20 u21 u22 u23 u24 u109 u110 u111 u112 u113 u114 u115 u116 u117 u118 u119 u120 u121 u122 u123 u124 u125 u126 u127 u128 u129 u130 u131 u132 u133 u134 u135 u136 u137 u138 u139 u140 u141 u142 u143 u144 u145 u146 u147 u148 u149 u150 u151 u152 u153 u154 u155 u156 u157 u158 u159 u160 u161 u162 u163 u164 u165 u166 u167 u168 u169 u170 u171 u172 u173 u174 u175 u176 u177 u178 u179 u180 u181 u182 u183 u184 u185 u186 u187 u188 u189 u190 u191 u192 u193 u194 u195 u196 u197 u198 u199 u200 u201 u202 u203 u204 u205 u206 u207 u208 u209 u210 u211 u212 u213 u214 u215 u216 u217 u218 u219 u220 u221 u222 u223 u224 u225 u226 u227 u228 u229 u230 u231 u232 u233 u234 u235 u236 u237 u238 u239 u240 u241 u242 u243 u244 u245 u246 u247 u248 u249 u250 u251 u252 u253 u254 u255 u256 u257 u258 u259 u260 u261 u262 u263 u264 u265 u266 u267 u268 u269 u270 u271 u272 u273 u274 u275 u276 : Value) (v' : Value) (wx : World), OwR wx w0.heap.size v' ((s.keep a b p).add a b c).l → OwE wx w0.heap.size (.slice A8 N c8) (lay N (cur (D o a) (D o b) fun i => U i || inC (clu d e r) (el (D o a) (D o b) i))) → OwN wx w0.heap.size tI v9 R → Below w0.heap.size w0 wx → K { tmps := List.toArray ((.slice Ao no co) :: (.slice Aa na ca) :: (.slice Ab nb cb) :: x3 :: x4 :: x5 :: x6 :: (.slice A1 n1 c1) :: (.slice A8 N c8) :: (v9) :: (v') :: (.int .i64 t) :: (.int .i64 (Y + M1 : Nat)) :: (.int .i64 (Z + M2 : Nat)) :: (.int .i64 f) :: (.int .i64 p) :: x16 :: x17 :: (u18) :: (u19) :: (u20) :: (u21) :: (u22) :: (u23) :: (u24) :: x25 :: x26 :: x27 :: x28 :: x29 :: x30 :: x31 :: x32 :: x33 :: x34 :: x35 :: x36 :: x37 :: x38 :: x39 :: x40 :: x41 :: x42 :: x43 :: x44 :: x45 :: x46 :: x47 :: x48 :: x49 :: x50 :: x51 :: x52 :: x53 :: x54 :: x55 :: x56 :: x57 :: x58 :: x59 :: x60 :: x61 :: x62 :: x63 :: x64 :: x65 :: x66 :: x67 :: x68 :: x69 :: x70 :: x71 :: x72 :: x73 :: x74 :: x75 :: x76 :: x77 :: x78 :: x79 :: x80 :: x81 :: x82 :: x83 :: x84 :: x85 :: x86 :: x87 :: x88 :: x89 :: x90 :: x91 :: x92 :: x93 :: x94 :: x95 :: x96 :: x97 :: x98 :: x99 :: x100 :: x101 :: x102 :: x103 :: x104 :: x105 :: x106 :: x107 :: x108 :: (u109) :: (u110) :: (u111) :: (u112) :: (u113) :: (u114) :: (u115) :: (u116) :: (u117) :: (u118) :: (u119) :: (u120) :: (u121) :: (u122) :: (u123) :: (u124) :: (u125) :: (u126) :: (u127) :: (u128) :: (u129) :: (u130) :: (u131) :: (u132) :: (u133) :: (u134) :: (u135) :: (u136) :: (u137) :: (u138) :: (u139) :: (u140) :: (u141) :: (u142) :: (u143) :: (u144) :: (u145) :: (u146) :: (u147) :: (u148) :: (u149) :: (u150) :: (u151) :: (u152) :: (u153) :: (u154) :: (u155) :: (u156) :: (u157) :: (u158) :: (u159) :: (u160) :: (u161) :: (u162) :: (u163) :: (u164) :: (u165) :: (u166) :: (u167) :: (u168) :: (u169) :: (u170) :: (u171) :: (u172) :: (u173) :: (u174) :: (u175) :: (u176) :: (u177) :: (u178) :: (u179) :: (u180) :: (u181) :: (u182) :: (u183) :: (u184) :: (u185) :: (u186) :: (u187) :: (u188) :: (u189) :: (u190) :: (u191) :: (u192) :: (u193) :: (u194) :: (u195) :: (u196) :: (u197) :: (u198) :: (u199) :: (u200) :: (u201) :: (u202) :: (u203) :: (u204) :: (u205) :: (u206) :: (u207) :: (u208) :: (u209) :: (u210) :: (u211) :: (u212) :: (u213) :: (u214) :: (u215) :: (u216) :: (u217) :: (u218) :: (u219) :: (u220) :: (u221) :: (u222) :: (u223) :: (u224) :: (u225) :: (u226) :: (u227) :: (u228) :: (u229) :: (u230) :: (u231) :: (u232) :: (u233) :: (u234) :: (u235) :: (u236) :: (u237) :: (u238) :: (u239) :: (u240) :: (u241) :: (u242) :: (u243) :: (u244) :: (u245) :: (u246) :: (u247) :: (u248) :: (u249) :: (u250) :: (u251) :: (u252) :: (u253) :: (u254) :: (u255) :: (u256) :: (u257) :: (u258) :: (u259) :: (u260) :: (u261) :: (u262) :: (u263) :: (u264) :: (u265) :: (u266) :: (u267) :: (u268) :: (u269) :: (u270) :: (u271) :: (u272) :: (u273) :: (u274) :: (u275) :: (u276) :: x277 :: []), defers := [] } wx) :
    Code.wp Try.prog B (Exit.then K Q') { tmps := List.toArray ((.slice Ao no co) :: (.slice Aa na ca) :: (.slice Ab nb cb) :: x3 :: x4 :: x5 :: x6 :: (.slice A1 n1 c1) :: (.slice A8 N c8) :: (v9) :: (v10) :: x11 :: (.int .i64 Y) :: (.int .i64 Z) :: (.int .i64 f) :: (.int .i64 p) :: x16 :: x17 :: x18 :: x19 :: x20 :: x21 :: x22 :: x23 :: x24 :: x25 :: x26 :: x27 :: x28 :: x29 :: x30 :: x31 :: x32 :: x33 :: x34 :: x35 :: x36 :: x37 :: x38 :: x39 :: x40 :: x41 :: x42 :: x43 :: x44 :: x45 :: x46 :: x47 :: x48 :: x49 :: x50 :: x51 :: x52 :: x53 :: x54 :: x55 :: x56 :: x57 :: x58 :: x59 :: x60 :: x61 :: x62 :: x63 :: x64 :: x65 :: x66 :: x67 :: x68 :: x69 :: x70 :: x71 :: x72 :: x73 :: x74 :: x75 :: x76 :: x77 :: x78 :: x79 :: x80 :: x81 :: x82 :: x83 :: x84 :: x85 :: x86 :: x87 :: x88 :: x89 :: x90 :: x91 :: x92 :: x93 :: x94 :: x95 :: x96 :: x97 :: x98 :: x99 :: x100 :: x101 :: x102 :: x103 :: x104 :: x105 :: x106 :: x107 :: x108 :: x109 :: x110 :: x111 :: x112 :: x113 :: x114 :: x115 :: x116 :: x117 :: x118 :: x119 :: x120 :: x121 :: x122 :: x123 :: x124 :: x125 :: x126 :: x127 :: x128 :: x129 :: x130 :: x131 :: x132 :: x133 :: x134 :: x135 :: x136 :: x137 :: x138 :: x139 :: x140 :: x141 :: x142 :: x143 :: x144 :: x145 :: x146 :: x147 :: x148 :: x149 :: x150 :: x151 :: x152 :: x153 :: x154 :: x155 :: x156 :: x157 :: x158 :: x159 :: x160 :: x161 :: x162 :: x163 :: x164 :: x165 :: x166 :: x167 :: x168 :: x169 :: x170 :: x171 :: x172 :: x173 :: x174 :: x175 :: x176 :: x177 :: x178 :: x179 :: x180 :: x181 :: x182 :: x183 :: x184 :: x185 :: x186 :: x187 :: x188 :: x189 :: x190 :: x191 :: x192 :: x193 :: x194 :: x195 :: x196 :: x197 :: x198 :: x199 :: x200 :: x201 :: x202 :: x203 :: x204 :: x205 :: x206 :: x207 :: x208 :: x209 :: x210 :: x211 :: x212 :: x213 :: x214 :: x215 :: x216 :: x217 :: x218 :: x219 :: x220 :: x221 :: x222 :: x223 :: x224 :: x225 :: x226 :: x227 :: x228 :: x229 :: x230 :: x231 :: x232 :: x233 :: x234 :: x235 :: x236 :: x237 :: x238 :: x239 :: x240 :: x241 :: x242 :: x243 :: x244 :: x245 :: x246 :: x247 :: x248 :: x249 :: x250 :: x251 :: x252 :: x253 :: x254 :: x255 :: x256 :: x257 :: x258 :: x259 :: x260 :: x261 :: x262 :: x263 :: x264 :: x265 :: x266 :: x267 :: x268 :: x269 :: x270 :: x271 :: x272 :: x273 :: x274 :: x275 :: x276 :: x277 :: []), defers := [] } w := by
  have HF := hide hK
  clear hK
  subst hB
  conv => arg 2; whnf
  generalize hB4 : Code.block 4 _ = B4
  generalize hB41 : Code.region 41 _ _ = B41
  generalize hB42 : Code.seq (Code.region 42 _ _) _ = B42
  have HB4 := hide hB4
  have HB41 := hide hB41
  have HB42 := hide hB42
  clear hB4 hB41 hB42
  obtain ⟨C, hCd⟩ : ∃ C : Nat → Bool, C = fun i => inC (clu d e r) (el (D o a) (D o b) i) := ⟨_, rfl⟩
  have hCi : ∀ i, C i = true ↔ el (D o a) (D o b) i ∈ clu d e r := fun i => by rw [hCd]; exact inC_iff
  have hRl := hMk.len
  have hCm : ∀ i, i < N → (R.getD i 0 = R.getD f 0 ↔ C i = true) := fun i hi => by rw [hCi, hI.marks hN hMk hf hi hfC]
  obtain ⟨φ, hφd⟩ : ∃ φ, φ = cur (D o a) (D o b) U := ⟨_, rfl⟩
  have hφ : ∀ i, i < N → C i = true → U i = false ∧ φ i = (el (D o a) (D o b) i).2 := fun i hi hc' => by
    have h1 : U i = false := by
      cases hu : U i
      · rfl
      · exact absurd ((hCi i).1 hc') (hI.apart (.inl ((hU i hi).1 hu)))
    exact ⟨h1, by rw [hφd]; unfold cur; rw [h1]; simp⟩
  have hacc := hI.accs (φ := φ) (C := C) (fun i hi => hCi i) (fun i hi h => (hφ i (by omega) h).2)
  rw [← hN, ← hn1, ← hc] at hacc
  have hlo := hI.low (d, e) (by simp)
  simp only at hlo
  have hfr := (clo_to (d := d) (e := e) (r := r) hlo.2.1 hlo.2.2.1).1
  rw [← hc, hz.fr] at hfr
  rw [← hfr] at hacc
  obtain ⟨ac1, ac2, ac3, ac4, ac5⟩ := hacc
  have hall := (RInv.start o a b).low
  have hbd : ∀ i, i < N → -1 ≤ (φ i).pos ∧ 0 ≤ (φ i).del ∧ (φ i).pos + (φ i).del ≤ 1000000 ∧ (φ i).del ≤ 1000000 ∧ (φ i).ins.length ≤ 1000000 := fun i hi => by
    have h1 := hall _ (el_mem (F := D o a) (G := D o b) (i := i) (by omega))
    rw [hφd]
    unfold cur
    by_cases hu : U i = true
    · rw [if_pos hu]
      refine ⟨?_, ?_, ?_, ?_, ?_⟩ <;> simp only [neg] <;> omega
    · rw [if_neg hu]
      refine ⟨?_, ?_, ?_, ?_, ?_⟩ <;> omega
  have hto := hz.to
  rw [hto] at ac1
  obtain ⟨gm, cm, hv9, hgm1, hgm2, hcells⟩ := hmks.form (by rw [hRl]; omega)
  rw [hRl] at hv9
  subst hv9
  have hmc : ∀ i, i < N → w.cell? ⟨gm, i, none⟩ = some (.int .i64 (R.getD i 0)) := fun i hi => hcells i _ (by rw [List.getD_eq_getElem?_getD, List.getElem?_eq_getElem (by omega)]; rfl)
  have hbd8 : ∃ g8 cc, Value.slice A8 N c8 = .slice (some ⟨g8, 0, none⟩) N cc ∧ w0.heap.size ≤ g8 ∧ g8 < w.heap.size := by
    obtain ⟨Vv, hVv, hr8, _⟩ := heds
    rw [lay_len] at hr8
    exact World.ownsRow.form hr8 (by omega)
  obtain ⟨g8, cc, e8, hg81, hg82⟩ := hbd8
  injection e8 with e81 e82 e83
  subst e81 e83
  have hgg : gm ≠ g8 := by
    intro h
    subst h
    obtain ⟨cs1, k1⟩ := OwN.blk hmks gm rfl
    obtain ⟨cs2, k2⟩ := OwE.blk heds gm rfl
    have := (k1.uniq k2).1
    simp [tI, tE] at this
  have hsz := hz
  rw [← hφd] at heds
  obtain ⟨q, hq⟩ : ∃ q, q = w.heap.size := ⟨_, rfl⟩
  obtain ⟨w2, hw2⟩ : ∃ w2, w2 = w.alloc (.cells #[.int .i64 0, .int .i64 p, .int .i64 0, .int .i64 Y, .int .i64 0, .int .i64 Z, .int .i64 0] tR) := ⟨_, rfl⟩
  have hb2 : Below w.heap.size w w2 := by rw [hw2]; exact (Below.refl _ w).alloc (Nat.le_refl _) _
  have hrow2 : Row w2 q tR [.int .i64 0, .int .i64 p, .int .i64 0, .int .i64 Y, .int .i64 0, .int .i64 Z, .int .i64 0] := by rw [hw2, hq]; exact Row.fresh w tR _
  have hpt : p ≤ t ∧ t ≤ 700 := ⟨hz.pt, by have := hz.po; omega⟩
  have hYZ : Y + M1 ≤ na ∧ Z + M2 ≤ nb ∧ na ≤ 700 ∧ nb ≤ 700 := by have := hz.Y1; have := hz.Z1; omega
  have hm1 := hz.m1
  have hm2 := hz.m2
  have hadd : ((s.keep a b p).add a b c).l = (s.keep a b p).l ++ [⟨kindOf c (cut a Y M1) (cut b Z M2), p, (t - p : Nat), Y, M1, Z, M2⟩] := by
    show (s.keep a b p).l ++ [_] = _
    have e1 : c.to - c.fr = ((t - p : Nat) : Int) := by rw [hz.to, hz.fr]; omega
    rw [e1, hm1, hm2, hz.kx, hz.ky, hz.kz, ← hY, ← hZ]
  have hcur : lay N (fun j => if j = f then neg (used φ C f N f) else used φ C f N j) = lay N (cur (D o a) (D o b) fun i => U i || inC (clu d e r) (el (D o a) (D o b) i)) := by
    refine lay_congr fun i hi => ?_
    have hCi' : inC (clu d e r) (el (D o a) (D o b) i) = C i := by rw [hCd]
    unfold cur
    simp only [hCi']
    by_cases hif : i = f
    · subst hif
      have hcf := (hCi i).2 hfC
      rw [if_pos rfl, if_pos (by rw [hcf]; simp)]
      unfold used
      rw [if_neg (fun h => h.2.2 rfl), (hφ i hi hcf).2]
    · rw [if_neg hif]
      unfold used
      by_cases hci : C i = true
      · rw [if_pos ⟨hi, hci, hif⟩, if_pos (by rw [hci]; simp), (hφ i hi hci).2]
      · rw [if_neg (fun h => hci h.2.1), hφd]
        unfold cur
        simp [hci]
  have Hadd := hide hadd
  have Hcur := hide hcur
  have Hout := hide hout
  have Heds := hide heds
  have Hmks := hide hmks
  have Hlow := hide hlow
  have Ht := hide ht
  have Hq := hide hq
  have Hw2 := hide hw2
  have Hb2 := hide hb2
  have Hln := hide hln
  have Hac := hide (show accE φ C p N = t ∧ accA φ C n1 N = c.m0 ∧ accB φ C n1 N = c.m1 from ⟨ac1, ac2, ac3⟩)
  have Hk := hide (show (acc1 C n1 N = true ↔ c.n0 ≠ 0) ∧ (acc2 C n1 N = true ↔ c.n1 ≠ 0) ∧ 0 ≤ c.n0 ∧ 0 ≤ c.n1 ∧ (c.n0 ≠ 0 ∨ c.n1 ≠ 0) from ⟨ac4, ac5, by
    obtain ⟨z1, z2, z3, z4⟩ := clo_sums (d := d) (e := e) (r := r) hlo.2.1 hlo.2.2.1
    rw [← hc] at z1 z3
    have hpos : 0 < (ofS false (clu d e r)).length + (ofS true (clu d e r)).length := by
      unfold clu
      cases d
      · rw [ofS_same]; simp; omega
      · rw [ofS_same (s := true)]; simp; omega
    omega⟩)
  clear hadd hcur hout heds hmks hlow ht hq hw2 hln ac1 ac2 ac3 ac4 ac5 hCd hφd hlo hfr hall hI hc hsz hMk hU hcells hRl hto hfC hφ hCi
  clear hz hY hZ hN hn1
  go_wp2_with (first | rw [← Hw2.out, ← Hq.out] | fail)
  rename_i KK hKK
  have hes := es_at Heds.out
  have hac := Hac.out
  refine rg_accs (w0 := w) _ _ _ _ _ _ _ _ _ _ _ _ _ _ _ _ _ _ _ _ _ _ _ _ _ _ _ _ _ _ _ _ _ _ _ _ _ _ _ _ _ _ _ _ _ _ _ _ _ _ _ _ _ _ _ _ _ _ _ _ _ _ _ _ _ _ _ _ _ _ _ _ _ _ _ _ _ _ _ _ _ _ _ _ _ _ _ _ _ _ _ _ _ _ _ _ _ _ _ _ _ _ _ _ _ _ _ _ _ _ _ _ _ _ _ _ _ _ _ _ _ _ _ _ _ _ _ _ _ _ _ _ _ _ _ _ _ _ _ _ _ _ _ _ _ _ _ _ _ _ _ _ _ _ _ _ _ _ _ _ _ _ _ _ _ _ _ _ _ _ _ _ _ _ _ _ _ _ _ _ _ _ _ _ _ _ _ _ _ _ _ _ _ _ _ _ _ _ _ _ _ _ _ _ _ _ _ _ _ _ _ _ _ _ _ _ _ _ _ _ _ _ _ _ _ _ _ _ _ _ _ _ _ _ _ _ _ _ _ _ _ _ _ _ _ _ _ _ _ _ _ _ _ _ _ _ _ _ _ _ _ _ _ _ _ _ _ _ _ (by rw [← HB4.out]; kernel_rfl) hes Hb2.out (by omega) (fun i hi => agree (hmc i hi) Hb2.out) hgm2 (by have := Hq.out; omega) hf hCm hbd (by omega) hrow2 ?_
  intro y117 y118 y119 y120 y121 y122 y123 y124 y125 y126 y127 y128 y129 y130 y131 y132 y133 y134 y135 y136 y137 y138 y139 y140 y141 y142 y143 y144 y145 y146 y147 y148 y149 y150 y151 y152 y153 y154 y155 y156 y157 y158 y159 y160 y161 y162 y163 y164 y165 y166 y167 y168 y169 y170 y171 y172 y173 y174 y175 y176 y177 y178 y179 y180 y181 y182 y183 y184 w3 hr3 ho3
  refine hKK _ _ ?_
  clear hKK KK hes
  rw [hac.1]
  rw [hac.2.1, hac.2.2] at hr3
  have hb3 := ho3.below Hb2.out Hb2.out.size (fun k hk e => by have := Hq.out; omega)
  obtain ⟨tt, htt⟩ : ∃ tt, tt = t - p := ⟨_, rfl⟩
  have w1' : IntKind.i64.wrap ((t : Int) - (p : Int)) = (tt : Int) := by rw [IntWalk.i64_in _ (by omega)]; omega
  have w2a : IntKind.i64.wrap (c.m0 + (t : Int)) = c.m0 + t := IntWalk.i64_in _ (by omega)
  have w2b : IntKind.i64.wrap (c.m0 + (t : Int) - (p : Int)) = (M1 : Int) := by rw [IntWalk.i64_in _ (by omega)]; omega
  have w3a : IntKind.i64.wrap (c.m1 + (t : Int)) = c.m1 + t := IntWalk.i64_in _ (by omega)
  have w3b : IntKind.i64.wrap (c.m1 + (t : Int) - (p : Int)) = (M2 : Int) := by rw [IntWalk.i64_in _ (by omega)]; omega
  have k2 := hr3.cell 2
  have k4 := hr3.cell 4
  have k6 := hr3.cell 6
  have f2 := hr3.free 2
  have f4 := hr3.free 4
  have f6 := hr3.free 6
  simp only [List.getElem?_cons_zero, List.getElem?_cons_succ] at k2 k4 k6
  obtain ⟨m0, hm0⟩ : ∃ z, z = c.m0 := ⟨_, rfl⟩
  obtain ⟨m1, hm1'⟩ : ∃ z, z = c.m1 := ⟨_, rfl⟩
  rw [← hm0] at k4 w2a w2b
  rw [← hm1'] at k6 w3a w3b
  have hr4 := ((hr3.put 2 (.int .i64 tt)).put 4 (.int .i64 M1)).put 6 (.int .i64 M2)
  have hb4 : Below w.heap.size w (((w3.setCell ⟨q, 2, none⟩ (.int .i64 tt)).setCell ⟨q, 4, none⟩ (.int .i64 M1)).setCell ⟨q, 6, none⟩ (.int .i64 M2)) :=
    below_put (below_put (below_put hb3 (g := q) (i := 2) (by have := Hq.out; omega) _) (g := q) (i := 4) (by have := Hq.out; omega) _) (g := q) (i := 6) (by have := Hq.out; omega) _
  obtain ⟨w4, hw4⟩ : ∃ w4, w4 = (((w3.setCell ⟨q, 2, none⟩ (.int .i64 tt)).setCell ⟨q, 4, none⟩ (.int .i64 M1)).setCell ⟨q, 6, none⟩ (.int .i64 M2)) := ⟨_, rfl⟩
  rw [← hw4] at hr4 hb4
  have hr4' : Row w4 q tR [.int .i64 0, .int .i64 p, .int .i64 tt, .int .i64 Y, .int .i64 M1, .int .i64 Z, .int .i64 M2] := hr4
  have Hr4 := hide hr4'
  have Hb4 := hide hb4
  have Hw4 := hide hw4
  have Htt := hide htt
  clear hm0 hm1' hr4 hr4' hb4 hw4 hr3 ho3 hb3 hac htt hm1 hm2
  go_wp2
  rw [← Hw4.out]
  rename_i KK hKK
  have hb04 := Hlow.out.trans (Hb4.out.mono Hlow.out.size)
  have hln' := Hln.out
  refine rg_texts _ _ _ _ _ _ _ _ _ _ _ _ _ _ _ _ _ _ _ _ _ _ _ _ _ _ _ _ _ _ _ _ _ _ _ _ _ _ _ _ _ _ _ _ _ _ _ _ _ _ _ _ _ _ _ _ _ _ _ _ _ _ _ _ _ _ _ _ _ _ _ _ _ _ _ _ _ _ _ _ _ _ _ _ _ _ _ _ _ _ _ _ _ _ _ _ _ _ _ _ _ _ _ _ _ _ _ _ _ _ _ _ _ _ _ _ _ _ _ _ _ _ _ _ _ _ _ _ _ _ _ _ _ _ _ _ _ _ _ _ _ _ _ _ _ _ _ _ _ _ _ _ _ _ _ _ _ _ _ _ _ _ _ _ _ _ _ _ _ _ _ _ _ _ _ _ _ _ _ _ _ _ _ _ _ _ _ _ _ _ _ _ _ _ _ _ _ _ _ _ _ _ _ _ _ _ _ _ _ _ _ _ _ _ _ _ _ _ _ _ _ _ _ _ _ _ _ _ _ _ _ _ _ _ _ _ _ _ _ _ _ _ _ _ _ _ _ _ _ _ _ _ _ _ _ _ _ _ _ _ _ _ _ _ _ _ _ _ _ _ _ _ _ (by rw [← HB41.out]; kernel_rfl) Hr4.out (Lw.Vs.below Ht.out.a_ hb04) (Lw.Vs.below Ht.out.b_ hb04) hln'.2.1 hln'.2.2 hYZ.1 hYZ.2.1 (by omega) ?_
  intro y208a y209a y210a y211a y212a y213a y214a y215a y216a y217a y218a y219a y220a y221a y222a y223a y224a w5 hb5
  refine hKK _ _ ?_
  clear hKK KK hb04 hln' k2 k4 k6 f2 f4 f6
  have hr5 := Hr4.out.below hb5 Hr4.out.lt
  have hb05 : Below w.heap.size w w5 := Hb4.out.trans (hb5.mono Hb4.out.size)
  have hb00 : Below w0.heap.size w0 w5 := Hlow.out.trans (hb05.mono Hlow.out.size)
  have hk := Hk.out
  have hkd := kd_is (ss := decide (cut a Y M1 = cut b Z M2)) hk.1 hk.2.1 hk.2.2.2.2 rfl
  refine rg_tail _ _ _ _ _ _ _ _ _ _ _ _ _ _ _ _ _ _ _ _ _ _ _ _ _ _ _ _ _ _ _ _ _ _ _ _ _ _ _ _ _ _ _ _ _ _ _ _ _ _ _ _ _ _ _ _ _ _ _ _ _ _ _ _ _ _ _ _ _ _ _ _ _ _ _ _ _ _ _ _ _ _ _ _ _ _ _ _ _ _ _ _ _ _ _ _ _ _ _ _ _ _ _ _ _ _ _ _ _ _ _ _ _ _ _ _ _ _ _ _ _ _ _ _ _ _ _ _ _ _ _ _ _ _ _ _ _ _ _ _ _ _ _ _ _ _ _ _ _ _ _ _ _ _ _ _ _ _ _ _ _ _ _ _ _ _ _ _ _ _ _ _ _ _ _ _ _ _ _ _ _ _ _ _ _ _ _ _ _ _ _ _ _ _ _ _ _ _ _ _ _ _ _ _ _ _ _ _ _ _ _ _ _ _ _ _ _ _ _ _ _ _ _ _ _ _ _ _ _ _ _ _ _ _ _ _ _ _ _ _ _ _ _ _ _ _ _ _ _ _ _ _ _ _ _ _ _ _ _ _ _ _ _ _ _ _ _ (by rw [← HB42.out]; kernel_rfl) hr5 (Hout.out.keep hb05) hb00.size hg81 (by have := Hq.out; have := Hlow.out.size; omega) (Heds.out.keep hb05) (Hmks.out.kept hb05) (fun i hi => agree (hmc i hi) hb05) hCm hf
    (fun k hk e => by have := (World.ownsRow.lt Hout.out k hk).2; have := Hq.out; omega) hgg hcnt (by omega) (by omega) ?_
  intro y24b y225b y226b y227b y228b y229b y230b y231b y232b y233b y234b y235b y236b y237b y238b y239b y240b y241b y242b y243b y244b y245b y246b y247b y248b y249b y250b y251b y252b y253b y254b y255b y256b y257b y258b y259b y260b y261b y262b y263b y264b y265b y266b y267b y268b y269b y270b y271b y272b y273b y274b y275b y276b v' wx h1 h2 h3 h4
  rw [hkd] at h1
  rw [Hcur.out] at h2
  exact HF.out _ _ _ _ _ _ _ _ _ _ _ _ _ _ _ _ _ _ _ _ _ _ _ _ _ _ _ _ _ _ _ _ _ _ _ _ _ _ _ _ _ _ _ _ _ _ _ _ _ _ _ _ _ _ _ _ _ _ _ _ _ _ _ _ _ _ _ _ _ _ _ _ _ _ _ _ _ _ _ _ _ _ _ _ _ _ _ _ _ _ _ _ _ _ _ _ _ _ _ _ _ _ _ _ _ _ _ _ _ _ _ _ _ _ _ _ _ _ _ _ _ _ _ _ _ _ _ _ _ _ _ _ _ _ _ _ _ _ _ _ _ _ _ _ _ _ _ _ _ _ _ _ _ _ _ _ _ _ _ _ _ _ _ _ _ _ _ _ _ _ _ _ _ _ _ v' wx (by rw [Hadd.out, ← Htt.out]; exact h1) h2 h3 (hb00.trans h4)

end Go.Proofs.Ytghnieddokhagaa.Al
