/-
  The four loops of the reference's Make.
-/
import Derived.Test.YtfmmececocilhaaII
namespace Go.Proofs.Ytfmmececocilhaa.Hu
open Go Go.RowKit Kt Lw Li Df

set_option maxHeartbeats 4000000 in
set_option maxRecDepth 100000 in
theorem loop2 {a : Ls} {n N k p d I _q : Nat} {A Ae : Option Addr} {c c' ce bE oE : Nat} {w wc : World} {go cap : Nat} {V : List (Hk × Value)} {e : Hk} {vi X0 X1 X2 X3 v0 : Value} {gh : Nat} {L0 : Ls} {B : Code} {z' : Nat} (x2 x3 x4 x5 x6 x7 x8 x9 x11 x13 x14 x16 x17 x18 x19 x20 x21 x22 x23 x24 x25 x26 x27 x28 x29 x30 x31 x32 x33 x34 x35 x36 x37 x38 x39 x40 x41 x42 x43 x44 x45 x46 x47 x48 x49 x50 x51 x52 x53 x54 x55 x56 x57 x58 x59 x60 x61 x62 x63 x64 x65 x66 x67 x68 x69 x70 x71 x72 x73 x74 x75 x76 x77 x78 x79 x80 x81 x82 x83 x84 x85 x86 x87 x88 x89 x90 x91 x92 x93 x94 x95 x96 x97 x98 x99 x100 x101 x102 x103 x104 x105 x106 x107 x108 x109 x110 x111 x112 x113 x114 x115 x116 x117 x118 x119 x120 x121 x122 x123 x124 x125 x126 x127 x128 x129 x130 x131 x132 x133 x134 x135 x136 x137 x138 x139 x140 x141 x142 x143 x144 x145 x146 x147 x148 x149 x150 x151 x152 x153 x154 x155 x156 x157 x158 x159 x160 x161 x162 x163 x164 x165 x166 x167 x168 x169 x170 x171 x172 x173 x174 x175 x176 x177 x178 x179 x180 x181 x182 x183 x184 x185 x186 x187 x188 x189 x190 x191 x192 x193 x194 x195 x196 x197 x198 x199 x200 x201 x202 x203 x204 x205 x206 x207 x208 x209 x210 x211 x212 x213 x214 x215 x216 x217 x218 x219 x220 x221 x222 x223 x224 x225 x226 : Value) (K : Act → World → Prop) (Q' : Exit → Act → World → Prop)
    (hs : Vs w (fun b => b < w.heap.size) A c (texts a)) (hna : n = a.length) (hn : n ≤ 24) (hxa : ∀ x ∈ a, x.length ≤ 9223372036854775806)
    (hE : ∀ w', Below w.heap.size w w' → w'.cell? ⟨bE, oE + k * 3, none⟩ = some (.int .i64 p) ∧ w'.cell? ⟨bE, oE + k * 3 + 1, none⟩ = some (.int .i64 d) ∧ w'.cell? ⟨bE, oE + k * 3 + 2, none⟩ = some (.slice Ae I ce)) (_hbE : bE < w.heap.size)
    (hlt : k < N) (_hN20 : N ≤ 20) (hl0 : L0.length ≤ 100000) (hmk : MK w wc w.heap.size go cap V e vi gh X0 X1 X2 X3 v0 (L0)) (hB : B = (findB 2 (Try.f21.body.getD .skip)).getD .skip) (hzp : z' ≤ p) (hpn : p ≤ n) 
    (hK : ∀ (u10 u90 u91 u92 u93 u94 u95 u96 u97 u98 u99 u100 u101 u102 u103 u104 u105 u106 u107 u108 : Value) (wx : World), (∃ v', u10 = .int .i64 p ∧ MK w wx w.heap.size go cap V e vi gh X0 X1 X2 X3 v' (L0 ++ mk 32 ((a.drop z').take (p - z')))) → K { tmps := #[.slice A n c, .slice (some ⟨bE, oE, none⟩) N c', x2, x3, x4, x5, x6, x7, x8, x9, u10, x11, .int .i64 (k : Int), x13, x14, .pointer (some ⟨gh, 0, none⟩), x16, x17, x18, x19, x20, x21, x22, x23, x24, x25, x26, x27, x28, x29, x30, x31, x32, x33, x34, x35, x36, x37, x38, x39, x40, x41, x42, x43, x44, x45, x46, x47, x48, x49, x50, x51, x52, x53, x54, x55, x56, x57, x58, x59, x60, x61, x62, x63, x64, x65, x66, x67, x68, x69, x70, x71, x72, x73, x74, x75, x76, x77, x78, x79, x80, x81, x82, x83, x84, x85, x86, x87, x88, x89, u90, u91, u92, u93, u94, u95, u96, u97, u98, u99, u100, u101, u102, u103, u104, u105, u106, u107, u108, x109, x110, x111, x112, x113, x114, x115, x116, x117, x118, x119, x120, x121, x122, x123, x124, x125, x126, x127, x128, x129, x130, x131, x132, x133, x134, x135, x136, x137, x138, x139, x140, x141, x142, x143, x144, x145, x146, x147, x148, x149, x150, x151, x152, x153, x154, x155, x156, x157, x158, x159, x160, x161, x162, x163, x164, x165, x166, x167, x168, x169, x170, x171, x172, x173, x174, x175, x176, x177, x178, x179, x180, x181, x182, x183, x184, x185, x186, x187, x188, x189, x190, x191, x192, x193, x194, x195, x196, x197, x198, x199, x200, x201, x202, x203, x204, x205, x206, x207, x208, x209, x210, x211, x212, x213, x214, x215, x216, x217, x218, x219, x220, x221, x222, x223, x224, x225, x226], defers := [] } wx) :
    Code.wp Try.prog (B) (Exit.then K Q') { tmps := #[.slice A n c, .slice (some ⟨bE, oE, none⟩) N c', x2, x3, x4, x5, x6, x7, x8, x9, .int .i64 (z' : Int), x11, .int .i64 (k : Int), x13, x14, .pointer (some ⟨gh, 0, none⟩), x16, x17, x18, x19, x20, x21, x22, x23, x24, x25, x26, x27, x28, x29, x30, x31, x32, x33, x34, x35, x36, x37, x38, x39, x40, x41, x42, x43, x44, x45, x46, x47, x48, x49, x50, x51, x52, x53, x54, x55, x56, x57, x58, x59, x60, x61, x62, x63, x64, x65, x66, x67, x68, x69, x70, x71, x72, x73, x74, x75, x76, x77, x78, x79, x80, x81, x82, x83, x84, x85, x86, x87, x88, x89, x90, x91, x92, x93, x94, x95, x96, x97, x98, x99, x100, x101, x102, x103, x104, x105, x106, x107, x108, x109, x110, x111, x112, x113, x114, x115, x116, x117, x118, x119, x120, x121, x122, x123, x124, x125, x126, x127, x128, x129, x130, x131, x132, x133, x134, x135, x136, x137, x138, x139, x140, x141, x142, x143, x144, x145, x146, x147, x148, x149, x150, x151, x152, x153, x154, x155, x156, x157, x158, x159, x160, x161, x162, x163, x164, x165, x166, x167, x168, x169, x170, x171, x172, x173, x174, x175, x176, x177, x178, x179, x180, x181, x182, x183, x184, x185, x186, x187, x188, x189, x190, x191, x192, x193, x194, x195, x196, x197, x198, x199, x200, x201, x202, x203, x204, x205, x206, x207, x208, x209, x210, x211, x212, x213, x214, x215, x216, x217, x218, x219, x220, x221, x222, x223, x224, x225, x226], defers := [] } wc := by
  have Hs := hide hs
  have HA := hide hna
  have HxA := hide hxa
  have HE := hide hE
  have Hl0 := hide hl0
  have HM0 := hide hmk
  have HK := hide hK
  clear hs hna hxa hE hl0 hmk hK
  subst hB
  conv => arg 2; whnf

  go_wp2_with fail
  go_loopw [10] (fun y wr => ∃ (j : Nat) (v' : Value), (z' ≤ j ∧ j ≤ p) ∧ y = .int .i64 j ∧ MK w wr w.heap.size go cap V e vi gh X0 X1 X2 X3 v' (L0 ++ mk 32 ((a.drop z').take (j - z')))) (fun y _ => p - (intOf y).toNat)
  case atStart => exact ⟨z', _, ⟨Nat.le_refl _, hzp⟩, rfl, by simpa [mk_nil] using HM0.out⟩
  case round =>
    obtain ⟨j, v', ⟨hzj, hjp⟩, rfl, hmk⟩ := hrel
    have HMa := hide hmk
    obtain ⟨c0, c1, c2⟩ := HE.out _ hmk.low
    clear hmk
    by_cases hlj : j < p
    · obtain ⟨b, o, hA, ck⟩ := Hs.out.text HMa.out.low (k := j) (by have := HA.out; omega)
      have hbw : b < w.heap.size := by
        obtain ⟨b', o', hA', hp', _⟩ := Hs.out.2 (by rw [texts_len]; have := HA.out; omega)
        rw [hA] at hA'
        injection hA' with hA'
        injection hA' with hA' _ _
        rw [hA']; exact hp'
      subst hA
      have hxl := HxA.out (a.getD j []) (by
        have h1 : j < a.length := by have := HA.out; omega
        have h2 : a.getD j [] = a[j] := by simp [List.getElem?_eq_getElem h1]
        rw [h2]; exact List.getElem_mem h1)
      have Hsn := hide (run_more a z' j hzj (by have := HA.out; omega))
      obtain ⟨x, hx⟩ : ∃ x, x = a.getD j [] := ⟨_, rfl⟩
      rw [← hx] at ck hxl Hsn
      clear hx
      have ea := app_txt [32] x
      have hX1 : ¬ 9223372036854775807 < 1 + x.length := by omega
      have hX2 : ¬ 9223372036854775807 < x.length + 1 := by omega
      have hjn : j < n := by omega
      have Hnx := hide (show L0 ++ mk 32 ((a.drop z').take (j + 1 - z')) = (L0 ++ mk 32 ((a.drop z').take (j - z'))) ++ [32 :: x] by
        rw [Hsn.out, mk_append, ← List.append_assoc]; rfl)
      have Hpl := hide (show (L0 ++ mk 32 ((a.drop z').take (j - z'))).length ≤ 500000 by
        rw [List.length_append, mk_len, List.length_take]; have := Hl0.out; omega)
      clear Hsn
      go_wp2
      have q4 := HMa.out.cells.2.2.2.2
      refine Rg.wp_region_ord (fun w' => w'.cell? ⟨gh, 4, none⟩ = some v' ∧ w'.cell? ⟨b, o + j, none⟩ = some (.string ⟨x.toArray⟩)) [(0, true), (1, true), (2, true), (3, true), (4, true), (5, true), (6, true), (7, false), (8, false), (9, true), (10, false)] (by kernel_rfl) (by kernel_rfl) ?_
      simp only [Rg.pick, List.map_cons, List.map_nil, List.getD_cons_zero, List.getD_cons_succ]
      iterate 7 (refine Rg.ord_quiet (v := ?_) rfl (fun w' hS => ?_) ⟨q4, ck⟩ ?_; rotate_left; (obtain ⟨s4, sk⟩ := hS; go_simp; with_reducible rfl); simp only [Act.put, List.setIfInBounds_toArray, List.set_cons_succ, List.set_cons_zero])
      refine Rg.ord_loud rfl (fun K hK => ?_)
      go_simp
      refine hK _ _ (fun hf => ⟨cell_keep ((Below.refl _ _).alloc (Nat.le_refl _) _).drew q4, cell_keep ((Below.refl _ _).alloc (Nat.le_refl _) _).drew ck⟩) ?_
      clear hK K
      refine Rg.ord_loud rfl (fun K hK => ?_)
      have HMd := hide HMa.out.drew
      refine wp_pushT (.tmp 98) (.tmp 104) rfl w.heap.size wr.drew v' (L0 ++ mk 32 ((a.drop z').take (j - z'))) (32 :: x) _ rfl rfl rfl HMd.out.own (by have := Hpl.out; omega) (Below.refl _ _) (by have := HMd.out.low.size; exact this) ?_
      intro v7 w7 hv7 hb7 hg7 hbl7
      obtain ⟨A7, n7, c7, rfl⟩ := owt_form hv7
      have e4 := (HMd.out.grown hg7).cell 4
      have f4 := (HMd.out.grown hg7).free 4
      simp only [List.getElem?_cons_zero, List.getElem?_cons_succ] at e4
      have HM7 := hide (HMd.out.step hv7 hg7 (hbl7.imp id fun h => ⟨_, h, Nat.le_succ _⟩))
      have hk7 : ∀ (p : Addr) (u : Value), wr.cell? p = some u → p.block < w.heap.size → w7.cell? p = some u := fun p u hc hp => (World.cell?_of_block (w := wr.drew) (a := p) (hg7.block p.block (World.block_lt_of_cell? wr.drew _ hc) (fun e => by have h1 := (World.ownsRow.lt HMd.out.own p.block e.symm).1; omega))).trans hc
      have ck7 := hk7 ⟨b, o + j, none⟩ _ ck hbw
      clear hbw
      clear q4 hv7 hb7 hg7 hbl7 hk7
      refine hK _ _ (fun _ => ⟨e4, ck7⟩) ?_
      clear hK K
      try simp only [Act.put, List.setIfInBounds_toArray, List.set_cons_succ, List.set_cons_zero]
      iterate 1 (refine Rg.ord_quiet (v := ?_) rfl (fun w' hS => ?_) ⟨e4, ck7⟩ ?_; rotate_left; (obtain ⟨s4, sk⟩ := hS; go_simp; with_reducible rfl); simp only [Act.put, List.setIfInBounds_toArray, List.set_cons_succ, List.set_cons_zero])
      refine Rg.ord_loud rfl (fun K hK => ?_)
      go_simp
      refine hK _ _ (fun hf => absurd (show Rg.sink _ 10 = true from by kernel_rfl) (by rw [hf]; decide)) ?_
      clear hK K e4 f4 ck7
      refine Rg.ord_nil ?_
      go_wp2
      exact ⟨⟨j + 1, _, ⟨by omega, by omega⟩, by go_num, by rw [Hnx.out]; exact HM7.out⟩, by simp [intOf]; omega⟩
    · have hje : j = p := by omega
      have Hje := hide hje
      clear hje
      go_wp2
      refine HK.out _ _ _ _ _ _ _ _ _ _ _ _ _ _ _ _ _ _ _ _ _ ?_
      exact ⟨v', by rw [Hje.out], by rw [← Hje.out]; exact HMa.out⟩
end Go.Proofs.Ytfmmececocilhaa.Hu
namespace Go.Proofs.Ytfmmececocilhaa.Hu
open Go Go.RowKit Kt Lw Li Df

set_option maxHeartbeats 4000000 in
set_option maxRecDepth 100000 in
theorem loop3 {a : Ls} {n N k p d I _q : Nat} {A Ae : Option Addr} {c c' ce bE oE : Nat} {w wc : World} {go cap : Nat} {V : List (Hk × Value)} {e : Hk} {vi X0 X1 X2 X3 v0 : Value} {gh : Nat} {L0 : Ls} {B : Code} (x2 x3 x4 x5 x6 x7 x8 x9 x11 x13 x14 x17 x18 x19 x20 x21 x22 x23 x24 x25 x26 x27 x28 x29 x30 x31 x32 x33 x34 x35 x36 x37 x38 x39 x40 x41 x42 x43 x44 x45 x46 x47 x48 x49 x50 x51 x52 x53 x54 x55 x56 x57 x58 x59 x60 x61 x62 x63 x64 x65 x66 x67 x68 x69 x70 x71 x72 x73 x74 x75 x76 x77 x78 x79 x80 x81 x82 x83 x84 x85 x86 x87 x88 x89 x90 x91 x92 x93 x94 x95 x96 x97 x98 x99 x100 x101 x102 x103 x104 x105 x106 x107 x108 x109 x110 x111 x112 x113 x114 x115 x116 x117 x118 x119 x120 x121 x122 x123 x124 x125 x126 x127 x128 x129 x130 x131 x132 x133 x134 x135 x136 x137 x138 x139 x140 x141 x142 x143 x144 x145 x146 x147 x148 x149 x150 x151 x152 x153 x154 x155 x156 x157 x158 x159 x160 x161 x162 x163 x164 x165 x166 x167 x168 x169 x170 x171 x172 x173 x174 x175 x176 x177 x178 x179 x180 x181 x182 x183 x184 x185 x186 x187 x188 x189 x190 x191 x192 x193 x194 x195 x196 x197 x198 x199 x200 x201 x202 x203 x204 x205 x206 x207 x208 x209 x210 x211 x212 x213 x214 x215 x216 x217 x218 x219 x220 x221 x222 x223 x224 x225 x226 : Value) (K : Act → World → Prop) (Q' : Exit → Act → World → Prop)
    (hs : Vs w (fun b => b < w.heap.size) A c (texts a)) (hna : n = a.length) (hn : n ≤ 24) (hxa : ∀ x ∈ a, x.length ≤ 9223372036854775806)
    (hE : ∀ w', Below w.heap.size w w' → w'.cell? ⟨bE, oE + k * 3, none⟩ = some (.int .i64 p) ∧ w'.cell? ⟨bE, oE + k * 3 + 1, none⟩ = some (.int .i64 d) ∧ w'.cell? ⟨bE, oE + k * 3 + 2, none⟩ = some (.slice Ae I ce)) (_hbE : bE < w.heap.size)
    (hlt : k < N) (_hN20 : N ≤ 20) (hl0 : L0.length ≤ 100000) (hmk : MK w wc w.heap.size go cap V e vi gh X0 X1 X2 X3 v0 (L0)) (hB : B = (findB 4 (Try.f21.body.getD .skip)).getD .skip) (hpn : p ≤ n) (hdn : d ≤ n) (hpd : p + d ≤ n) 
    (hK : ∀ (u10 u16 u109 u110 u111 u112 u113 u114 u115 u116 u117 u118 u119 u120 u121 u122 u123 u124 u125 u126 u127 u128 u129 : Value) (wx : World), (∃ (q : Nat) (v' : Value), (p + d ≤ q ∧ q ≤ p + d) ∧ u10 = .int .i64 q ∧ MK w wx w.heap.size go cap V e vi gh X0 X1 X2 X3 v' (L0 ++ mk 45 ((a.drop p).take d))) → K { tmps := #[.slice A n c, .slice (some ⟨bE, oE, none⟩) N c', x2, x3, x4, x5, x6, x7, x8, x9, u10, x11, .int .i64 (k : Int), x13, x14, .pointer (some ⟨gh, 0, none⟩), u16, x17, x18, x19, x20, x21, x22, x23, x24, x25, x26, x27, x28, x29, x30, x31, x32, x33, x34, x35, x36, x37, x38, x39, x40, x41, x42, x43, x44, x45, x46, x47, x48, x49, x50, x51, x52, x53, x54, x55, x56, x57, x58, x59, x60, x61, x62, x63, x64, x65, x66, x67, x68, x69, x70, x71, x72, x73, x74, x75, x76, x77, x78, x79, x80, x81, x82, x83, x84, x85, x86, x87, x88, x89, x90, x91, x92, x93, x94, x95, x96, x97, x98, x99, x100, x101, x102, x103, x104, x105, x106, x107, x108, u109, u110, u111, u112, u113, u114, u115, u116, u117, u118, u119, u120, u121, u122, u123, u124, u125, u126, u127, u128, u129, x130, x131, x132, x133, x134, x135, x136, x137, x138, x139, x140, x141, x142, x143, x144, x145, x146, x147, x148, x149, x150, x151, x152, x153, x154, x155, x156, x157, x158, x159, x160, x161, x162, x163, x164, x165, x166, x167, x168, x169, x170, x171, x172, x173, x174, x175, x176, x177, x178, x179, x180, x181, x182, x183, x184, x185, x186, x187, x188, x189, x190, x191, x192, x193, x194, x195, x196, x197, x198, x199, x200, x201, x202, x203, x204, x205, x206, x207, x208, x209, x210, x211, x212, x213, x214, x215, x216, x217, x218, x219, x220, x221, x222, x223, x224, x225, x226], defers := [] } wx) :
    Code.wp Try.prog (B) (Exit.then K Q') { tmps := #[.slice A n c, .slice (some ⟨bE, oE, none⟩) N c', x2, x3, x4, x5, x6, x7, x8, x9, .int .i64 (p : Int), x11, .int .i64 (k : Int), x13, x14, .pointer (some ⟨gh, 0, none⟩), .int .i64 0, x17, x18, x19, x20, x21, x22, x23, x24, x25, x26, x27, x28, x29, x30, x31, x32, x33, x34, x35, x36, x37, x38, x39, x40, x41, x42, x43, x44, x45, x46, x47, x48, x49, x50, x51, x52, x53, x54, x55, x56, x57, x58, x59, x60, x61, x62, x63, x64, x65, x66, x67, x68, x69, x70, x71, x72, x73, x74, x75, x76, x77, x78, x79, x80, x81, x82, x83, x84, x85, x86, x87, x88, x89, x90, x91, x92, x93, x94, x95, x96, x97, x98, x99, x100, x101, x102, x103, x104, x105, x106, x107, x108, x109, x110, x111, x112, x113, x114, x115, x116, x117, x118, x119, x120, x121, x122, x123, x124, x125, x126, x127, x128, x129, x130, x131, x132, x133, x134, x135, x136, x137, x138, x139, x140, x141, x142, x143, x144, x145, x146, x147, x148, x149, x150, x151, x152, x153, x154, x155, x156, x157, x158, x159, x160, x161, x162, x163, x164, x165, x166, x167, x168, x169, x170, x171, x172, x173, x174, x175, x176, x177, x178, x179, x180, x181, x182, x183, x184, x185, x186, x187, x188, x189, x190, x191, x192, x193, x194, x195, x196, x197, x198, x199, x200, x201, x202, x203, x204, x205, x206, x207, x208, x209, x210, x211, x212, x213, x214, x215, x216, x217, x218, x219, x220, x221, x222, x223, x224, x225, x226], defers := [] } wc := by
  have Hs := hide hs
  have HA := hide hna
  have HxA := hide hxa
  have HE := hide hE
  have Hl0 := hide hl0
  have HM0 := hide hmk
  have HK := hide hK
  clear hs hna hxa hE hl0 hmk hK
  subst hB
  conv => arg 2; whnf

  go_wp2_with fail
  go_loopw [10, 16] (fun y ui wr => ∃ (i j : Nat) (v' : Value), (i ≤ d ∧ j ≤ p + i ∧ p + i ≤ j) ∧ ui = .int .i64 i ∧ y = .int .i64 j ∧ MK w wr w.heap.size go cap V e vi gh X0 X1 X2 X3 v' (L0 ++ mk 45 ((a.drop p).take (j - p)))) (fun _ ui _ => d - (intOf ui).toNat)
  case atStart => exact ⟨0, p, _, ⟨by omega, by omega, by omega⟩, rfl, rfl, by simpa [mk_nil] using HM0.out⟩
  case round =>
    obtain ⟨i, j, v', ⟨hid, hj1, hj2⟩, rfl, rfl, hmk⟩ := hrel
    have HMa := hide hmk
    obtain ⟨c0, c1, c2⟩ := HE.out _ hmk.low
    clear hmk
    by_cases hlj : i < d
    · obtain ⟨b, o, hA, ck⟩ := Hs.out.text HMa.out.low (k := j) (by have := HA.out; omega)
      have hbw : b < w.heap.size := by
        obtain ⟨b', o', hA', hp', _⟩ := Hs.out.2 (by rw [texts_len]; have := HA.out; omega)
        rw [hA] at hA'
        injection hA' with hA'
        injection hA' with hA' _ _
        rw [hA']; exact hp'
      subst hA
      have hxl := HxA.out (a.getD j []) (by
        have h1 : j < a.length := by have := HA.out; omega
        have h2 : a.getD j [] = a[j] := by simp [List.getElem?_eq_getElem h1]
        rw [h2]; exact List.getElem_mem h1)
      have Hsn := hide (run_more a p j (by omega) (by have := HA.out; omega))
      obtain ⟨x, hx⟩ : ∃ x, x = a.getD j [] := ⟨_, rfl⟩
      rw [← hx] at ck hxl Hsn
      clear hx
      have ea := app_txt [45] x
      have hX1 : ¬ 9223372036854775807 < 1 + x.length := by omega
      have hX2 : ¬ 9223372036854775807 < x.length + 1 := by omega
      have hjn : j < n := by omega
      have Hnx := hide (show L0 ++ mk 45 ((a.drop p).take (j + 1 - p)) = (L0 ++ mk 45 ((a.drop p).take (j - p))) ++ [45 :: x] by
        rw [Hsn.out, mk_append, ← List.append_assoc]; rfl)
      have Hpl := hide (show (L0 ++ mk 45 ((a.drop p).take (j - p))).length ≤ 500000 by
        rw [List.length_append, mk_len, List.length_take]; have := Hl0.out; omega)
      clear Hsn
      go_wp2
      have q4 := HMa.out.cells.2.2.2.2
      refine Rg.wp_region_ord (fun w' => w'.cell? ⟨gh, 4, none⟩ = some v' ∧ w'.cell? ⟨b, o + j, none⟩ = some (.string ⟨x.toArray⟩)) [(0, true), (1, true), (2, true), (3, true), (4, true), (5, true), (6, true), (7, false), (8, false), (9, true), (10, false)] (by kernel_rfl) (by kernel_rfl) ?_
      simp only [Rg.pick, List.map_cons, List.map_nil, List.getD_cons_zero, List.getD_cons_succ]
      iterate 7 (refine Rg.ord_quiet (v := ?_) rfl (fun w' hS => ?_) ⟨q4, ck⟩ ?_; rotate_left; (obtain ⟨s4, sk⟩ := hS; go_simp; with_reducible rfl); simp only [Act.put, List.setIfInBounds_toArray, List.set_cons_succ, List.set_cons_zero])
      refine Rg.ord_loud rfl (fun K hK => ?_)
      go_simp
      refine hK _ _ (fun hf => ⟨cell_keep ((Below.refl _ _).alloc (Nat.le_refl _) _).drew q4, cell_keep ((Below.refl _ _).alloc (Nat.le_refl _) _).drew ck⟩) ?_
      clear hK K
      refine Rg.ord_loud rfl (fun K hK => ?_)
      have HMd := hide HMa.out.drew
      refine wp_pushT (.tmp 119) (.tmp 125) rfl w.heap.size wr.drew v' (L0 ++ mk 45 ((a.drop p).take (j - p))) (45 :: x) _ rfl rfl rfl HMd.out.own (by have := Hpl.out; omega) (Below.refl _ _) (by have := HMd.out.low.size; exact this) ?_
      intro v7 w7 hv7 hb7 hg7 hbl7
      obtain ⟨A7, n7, c7, rfl⟩ := owt_form hv7
      have e4 := (HMd.out.grown hg7).cell 4
      have f4 := (HMd.out.grown hg7).free 4
      simp only [List.getElem?_cons_zero, List.getElem?_cons_succ] at e4
      have HM7 := hide (HMd.out.step hv7 hg7 (hbl7.imp id fun h => ⟨_, h, Nat.le_succ _⟩))
      have hk7 : ∀ (p : Addr) (u : Value), wr.cell? p = some u → p.block < w.heap.size → w7.cell? p = some u := fun p u hc hp => (World.cell?_of_block (w := wr.drew) (a := p) (hg7.block p.block (World.block_lt_of_cell? wr.drew _ hc) (fun e => by have h1 := (World.ownsRow.lt HMd.out.own p.block e.symm).1; omega))).trans hc
      have ck7 := hk7 ⟨b, o + j, none⟩ _ ck hbw
      clear hbw
      clear q4 hv7 hb7 hg7 hbl7 hk7
      refine hK _ _ (fun _ => ⟨e4, ck7⟩) ?_
      clear hK K
      try simp only [Act.put, List.setIfInBounds_toArray, List.set_cons_succ, List.set_cons_zero]
      iterate 1 (refine Rg.ord_quiet (v := ?_) rfl (fun w' hS => ?_) ⟨e4, ck7⟩ ?_; rotate_left; (obtain ⟨s4, sk⟩ := hS; go_simp; with_reducible rfl); simp only [Act.put, List.setIfInBounds_toArray, List.set_cons_succ, List.set_cons_zero])
      refine Rg.ord_loud rfl (fun K hK => ?_)
      go_simp
      refine hK _ _ (fun hf => absurd (show Rg.sink _ 10 = true from by kernel_rfl) (by rw [hf]; decide)) ?_
      clear hK K e4 f4 ck7
      refine Rg.ord_nil ?_
      go_wp2
      exact ⟨⟨i + 1, j + 1, _, ⟨by omega, by omega, by omega⟩, by go_num, by go_num, by rw [Hnx.out]; exact HM7.out⟩, by simp [intOf]; omega⟩
    · have hje : j - p = d := by omega
      have Hje := hide hje
      clear hje
      go_wp2
      refine HK.out _ _ _ _ _ _ _ _ _ _ _ _ _ _ _ _ _ _ _ _ _ _ _ _ ?_
      exact ⟨j, v', ⟨by omega, by omega⟩, rfl, by rw [← Hje.out]; exact HMa.out⟩
end Go.Proofs.Ytfmmececocilhaa.Hu
namespace Go.Proofs.Ytfmmececocilhaa.Hu
open Go Go.RowKit Kt Lw Li Df

set_option maxHeartbeats 4000000 in
set_option maxRecDepth 100000 in
theorem loop4 {a : Ls} {n N k p d I _q : Nat} {A Ae : Option Addr} {c c' ce bE oE : Nat} {w wc : World} {go cap : Nat} {V : List (Hk × Value)} {e : Hk} {vi X0 X1 X2 X3 v0 : Value} {gh : Nat} {L0 : Ls} {B : Code} {L : List Ed} {f : Ed} (x2 x3 x4 x5 x6 x7 x8 x9 x10 x11 x13 x14 x16 x18 x19 x20 x21 x22 x23 x24 x25 x26 x27 x28 x29 x30 x31 x32 x33 x34 x35 x36 x37 x38 x39 x40 x41 x42 x43 x44 x45 x46 x47 x48 x49 x50 x51 x52 x53 x54 x55 x56 x57 x58 x59 x60 x61 x62 x63 x64 x65 x66 x67 x68 x69 x70 x71 x72 x73 x74 x75 x76 x77 x78 x79 x80 x81 x82 x83 x84 x85 x86 x87 x88 x89 x90 x91 x92 x93 x94 x95 x96 x97 x98 x99 x100 x101 x102 x103 x104 x105 x106 x107 x108 x109 x110 x111 x112 x113 x114 x115 x116 x117 x118 x119 x120 x121 x122 x123 x124 x125 x126 x127 x128 x129 x130 x131 x132 x133 x134 x135 x136 x137 x138 x139 x140 x141 x142 x143 x144 x145 x146 x147 x148 x149 x150 x151 x152 x153 x154 x155 x156 x157 x158 x159 x160 x161 x162 x163 x164 x165 x166 x167 x168 x169 x170 x171 x172 x173 x174 x175 x176 x177 x178 x179 x180 x181 x182 x183 x184 x185 x186 x187 x188 x189 x190 x191 x192 x193 x194 x195 x196 x197 x198 x199 x200 x201 x202 x203 x204 x205 x206 x207 x208 x209 x210 x211 x212 x213 x214 x215 x216 x217 x218 x219 x220 x221 x222 x223 x224 x225 x226 : Value) (K : Act → World → Prop) (Q' : Exit → Act → World → Prop)
    (hs : Vs w (fun b => b < w.heap.size) A c (texts a)) (hna : n = a.length) (_hn : n ≤ 24) (hxa : ∀ x ∈ a, x.length ≤ 9223372036854775806)
    (hE : ∀ w', Below w.heap.size w w' → w'.cell? ⟨bE, oE + k * 3, none⟩ = some (.int .i64 p) ∧ w'.cell? ⟨bE, oE + k * 3 + 1, none⟩ = some (.int .i64 d) ∧ w'.cell? ⟨bE, oE + k * 3 + 2, none⟩ = some (.slice Ae I ce)) (hbE : bE < w.heap.size)
    (hlt : k < N) (_hN20 : N ≤ 20) (hl0 : L0.length ≤ 100000) (hmk : MK w wc w.heap.size go cap V e vi gh X0 X1 X2 X3 v0 (L0)) (hB : B = (findB 6 (Try.f21.body.getD .skip)).getD .skip) (hve : Vs w (fun b => b < w.heap.size) Ae ce (texts f.ins)) (hI : I = f.ins.length) (hIb : I ≤ 1000) (hxe : ∀ e ∈ L, ∀ x ∈ e.ins, x.length ≤ 9223372036854775806) (hfL : f ∈ L) 
    (hK : ∀ (u17 u130 u131 u132 u133 u134 u135 u136 u137 u138 u139 u140 u141 u142 u143 u144 u145 u146 u147 u148 u149 u150 u151 u152 u153 : Value) (wx : World), (∃ v', MK w wx w.heap.size go cap V e vi gh X0 X1 X2 X3 v' (L0 ++ mk 43 f.ins)) → K { tmps := #[.slice A n c, .slice (some ⟨bE, oE, none⟩) N c', x2, x3, x4, x5, x6, x7, x8, x9, x10, x11, .int .i64 (k : Int), x13, x14, .pointer (some ⟨gh, 0, none⟩), x16, u17, x18, x19, x20, x21, x22, x23, x24, x25, x26, x27, x28, x29, x30, x31, x32, x33, x34, x35, x36, x37, x38, x39, x40, x41, x42, x43, x44, x45, x46, x47, x48, x49, x50, x51, x52, x53, x54, x55, x56, x57, x58, x59, x60, x61, x62, x63, x64, x65, x66, x67, x68, x69, x70, x71, x72, x73, x74, x75, x76, x77, x78, x79, x80, x81, x82, x83, x84, x85, x86, x87, x88, x89, x90, x91, x92, x93, x94, x95, x96, x97, x98, x99, x100, x101, x102, x103, x104, x105, x106, x107, x108, x109, x110, x111, x112, x113, x114, x115, x116, x117, x118, x119, x120, x121, x122, x123, x124, x125, x126, x127, x128, x129, u130, u131, u132, u133, u134, u135, u136, u137, u138, u139, u140, u141, u142, u143, u144, u145, u146, u147, u148, u149, u150, u151, u152, u153, x154, x155, x156, x157, x158, x159, x160, x161, x162, x163, x164, x165, x166, x167, x168, x169, x170, x171, x172, x173, x174, x175, x176, x177, x178, x179, x180, x181, x182, x183, x184, x185, x186, x187, x188, x189, x190, x191, x192, x193, x194, x195, x196, x197, x198, x199, x200, x201, x202, x203, x204, x205, x206, x207, x208, x209, x210, x211, x212, x213, x214, x215, x216, x217, x218, x219, x220, x221, x222, x223, x224, x225, x226], defers := [] } wx) :
    Code.wp Try.prog (B) (Exit.then K Q') { tmps := #[.slice A n c, .slice (some ⟨bE, oE, none⟩) N c', x2, x3, x4, x5, x6, x7, x8, x9, x10, x11, .int .i64 (k : Int), x13, x14, .pointer (some ⟨gh, 0, none⟩), x16, .int .i64 0, x18, x19, x20, x21, x22, x23, x24, x25, x26, x27, x28, x29, x30, x31, x32, x33, x34, x35, x36, x37, x38, x39, x40, x41, x42, x43, x44, x45, x46, x47, x48, x49, x50, x51, x52, x53, x54, x55, x56, x57, x58, x59, x60, x61, x62, x63, x64, x65, x66, x67, x68, x69, x70, x71, x72, x73, x74, x75, x76, x77, x78, x79, x80, x81, x82, x83, x84, x85, x86, x87, x88, x89, x90, x91, x92, x93, x94, x95, x96, x97, x98, x99, x100, x101, x102, x103, x104, x105, x106, x107, x108, x109, x110, x111, x112, x113, x114, x115, x116, x117, x118, x119, x120, x121, x122, x123, x124, x125, x126, x127, x128, x129, x130, x131, x132, x133, x134, x135, x136, x137, x138, x139, x140, x141, x142, x143, x144, x145, x146, x147, x148, x149, x150, x151, x152, x153, x154, x155, x156, x157, x158, x159, x160, x161, x162, x163, x164, x165, x166, x167, x168, x169, x170, x171, x172, x173, x174, x175, x176, x177, x178, x179, x180, x181, x182, x183, x184, x185, x186, x187, x188, x189, x190, x191, x192, x193, x194, x195, x196, x197, x198, x199, x200, x201, x202, x203, x204, x205, x206, x207, x208, x209, x210, x211, x212, x213, x214, x215, x216, x217, x218, x219, x220, x221, x222, x223, x224, x225, x226], defers := [] } wc := by
  have Hs := hide hs
  have HA := hide hna
  have HxA := hide hxa
  have HE := hide hE
  have Hl0 := hide hl0
  have HM0 := hide hmk
  have HK := hide hK
  clear hs hna hxa hE hl0 hmk hK
  subst hB
  conv => arg 2; whnf
  have Hve := hide hve
  have HI := hide hI
  have HxE := hide hxe
  have HfL := hide hfL
  clear hve hI hxe hfL
  go_wp2_with fail
  go_loopw [17] (fun ui wr => ∃ (i : Nat) (v' : Value), i ≤ I ∧ ui = .int .i64 i ∧ MK w wr w.heap.size go cap V e vi gh X0 X1 X2 X3 v' (L0 ++ mk 43 (f.ins.take i))) (fun ui _ => I - (intOf ui).toNat)
  case atStart => exact ⟨0, _, by omega, rfl, by simpa [mk_nil] using HM0.out⟩
  case round =>
    obtain ⟨i, v', hid, rfl, hmk⟩ := hrel
    have HMa := hide hmk
    obtain ⟨c0, c1, c2⟩ := HE.out _ hmk.low
    clear hmk
    by_cases hlj : i < I
    · obtain ⟨b, o, hA, ck⟩ := Hve.out.text HMa.out.low (k := i) (by have := HI.out; omega)
      have hbw : b < w.heap.size := by
        obtain ⟨b', o', hA', hp', _⟩ := Hve.out.2 (by rw [texts_len]; have := HI.out; omega)
        rw [hA] at hA'
        injection hA' with hA'
        injection hA' with hA' _ _
        rw [hA']; exact hp'
      subst hA
      have hxl := HxE.out f HfL.out (f.ins.getD i []) (by
        have h1 : i < f.ins.length := by have := HI.out; omega
        have h2 : f.ins.getD i [] = f.ins[i] := by simp [List.getElem?_eq_getElem h1]
        rw [h2]; exact List.getElem_mem h1)
      have Hsn := hide (run_more f.ins 0 i (Nat.zero_le _) (by have := HI.out; omega))
      obtain ⟨x, hx⟩ : ∃ x, x = f.ins.getD i [] := ⟨_, rfl⟩
      rw [← hx] at ck hxl Hsn
      clear hx
      have ea := app_txt [43] x
      have hX1 : ¬ 9223372036854775807 < 1 + x.length := by omega
      have hX2 : ¬ 9223372036854775807 < x.length + 1 := by omega
      have Hnx := hide (show L0 ++ mk 43 (f.ins.take (i + 1)) = (L0 ++ mk 43 (f.ins.take i)) ++ [43 :: x] by
        have := Hsn.out
        simp only [List.drop_zero, Nat.sub_zero] at this
        rw [this, mk_append, ← List.append_assoc]; rfl)
      have Hpl := hide (show (L0 ++ mk 43 (f.ins.take i)).length ≤ 500000 by
        rw [List.length_append, mk_len, List.length_take]; have := Hl0.out; omega)
      clear Hsn
      go_wp2
      have q4 := HMa.out.cells.2.2.2.2
      refine Rg.wp_region_ord (fun w' => w'.cell? ⟨gh, 4, none⟩ = some v' ∧ w'.cell? ⟨bE, oE + k * 3 + 2, none⟩ = some (.slice (some ⟨b, o, none⟩) I ce) ∧ w'.cell? ⟨b, o + i, none⟩ = some (.string ⟨x.toArray⟩)) [(0, true), (1, true), (2, true), (3, true), (4, true), (5, true), (6, true), (7, true), (8, true), (9, true), (10, true), (11, false), (12, false), (13, true), (14, false)] (by kernel_rfl) (by kernel_rfl) ?_
      simp only [Rg.pick, List.map_cons, List.map_nil, List.getD_cons_zero, List.getD_cons_succ]
      iterate 11 (refine Rg.ord_quiet (v := ?_) rfl (fun w' hS => ?_) ⟨q4, c2, ck⟩ ?_; rotate_left; (obtain ⟨s4, sc, sk⟩ := hS; go_simp; with_reducible rfl); simp only [Act.put, List.setIfInBounds_toArray, List.set_cons_succ, List.set_cons_zero])
      refine Rg.ord_loud rfl (fun K hK => ?_)
      go_simp
      refine hK _ _ (fun hf => ⟨cell_keep ((Below.refl _ _).alloc (Nat.le_refl _) _).drew q4, cell_keep ((Below.refl _ _).alloc (Nat.le_refl _) _).drew c2, cell_keep ((Below.refl _ _).alloc (Nat.le_refl _) _).drew ck⟩) ?_
      clear hK K
      refine Rg.ord_loud rfl (fun K hK => ?_)
      have HMd := hide HMa.out.drew
      refine wp_pushT (.tmp 141) (.tmp 151) rfl w.heap.size wr.drew v' (L0 ++ mk 43 (f.ins.take i)) (43 :: x) _ rfl rfl rfl HMd.out.own (by have := Hpl.out; omega) (Below.refl _ _) (by have := HMd.out.low.size; exact this) ?_
      intro v7 w7 hv7 hb7 hg7 hbl7
      obtain ⟨A7, n7, c7, rfl⟩ := owt_form hv7
      have e4 := (HMd.out.grown hg7).cell 4
      have f4 := (HMd.out.grown hg7).free 4
      simp only [List.getElem?_cons_zero, List.getElem?_cons_succ] at e4
      have HM7 := hide (HMd.out.step hv7 hg7 (hbl7.imp id fun h => ⟨_, h, Nat.le_succ _⟩))
      have hk7 : ∀ (p : Addr) (u : Value), wr.cell? p = some u → p.block < w.heap.size → w7.cell? p = some u := fun p u hc hp => (World.cell?_of_block (w := wr.drew) (a := p) (hg7.block p.block (World.block_lt_of_cell? wr.drew _ hc) (fun e => by have h1 := (World.ownsRow.lt HMd.out.own p.block e.symm).1; omega))).trans hc
      have ck7 := hk7 ⟨b, o + i, none⟩ _ ck hbw
      have c7 := hk7 ⟨bE, oE + k * 3 + 2, none⟩ _ c2 hbE
      clear hbw
      clear q4 hv7 hb7 hg7 hbl7 hk7
      refine hK _ _ (fun _ => ⟨e4, c7, ck7⟩) ?_
      clear hK K
      try simp only [Act.put, List.setIfInBounds_toArray, List.set_cons_succ, List.set_cons_zero]
      iterate 1 (refine Rg.ord_quiet (v := ?_) rfl (fun w' hS => ?_) ⟨e4, c7, ck7⟩ ?_; rotate_left; (obtain ⟨s4, sc, sk⟩ := hS; go_simp; with_reducible rfl); simp only [Act.put, List.setIfInBounds_toArray, List.set_cons_succ, List.set_cons_zero])
      refine Rg.ord_loud rfl (fun K hK => ?_)
      go_simp
      refine hK _ _ (fun hf => absurd (show Rg.sink _ 14 = true from by kernel_rfl) (by rw [hf]; decide)) ?_
      clear hK K e4 f4 ck7 c7
      refine Rg.ord_nil ?_
      go_wp2
      exact ⟨⟨i + 1, _, by omega, by go_num, by rw [Hnx.out]; exact HM7.out⟩, by simp [intOf]; omega⟩
    · have hje : f.ins.take i = f.ins := List.take_of_length_le (by have := HI.out; omega)
      have Hje := hide hje
      clear hje
      go_wp2
      refine HK.out _ _ _ _ _ _ _ _ _ _ _ _ _ _ _ _ _ _ _ _ _ _ _ _ _ _ ?_
      exact ⟨v', by have := HMa.out; rwa [Hje.out] at this⟩
end Go.Proofs.Ytfmmececocilhaa.Hu
namespace Go.Proofs.Ytfmmececocilhaa.Hu
open Go Go.RowKit Kt Lw Li Df

set_option maxHeartbeats 4000000 in
set_option maxRecDepth 100000 in
theorem loop5 {a : Ls} {n N k p d I q : Nat} {A Ae : Option Addr} {c c' ce bE oE : Nat} {w wc : World} {go cap : Nat} {V : List (Hk × Value)} {e : Hk} {vi X0 X1 X2 X3 v0 : Value} {gh : Nat} {L0 : Ls} {B : Code} {r : Nat} {ls : Bool} (x3 x4 x5 x6 x7 x8 x9 x11 x13 x14 x16 x17 x20 x21 x22 x23 x24 x25 x26 x27 x28 x29 x30 x31 x32 x33 x34 x35 x36 x37 x38 x39 x40 x41 x42 x43 x44 x45 x46 x47 x48 x49 x50 x51 x52 x53 x54 x55 x56 x57 x58 x59 x60 x61 x62 x63 x64 x65 x66 x67 x68 x69 x70 x71 x72 x73 x74 x75 x76 x77 x78 x79 x80 x81 x82 x83 x84 x85 x86 x87 x88 x89 x90 x91 x92 x93 x94 x95 x96 x97 x98 x99 x100 x101 x102 x103 x104 x105 x106 x107 x108 x109 x110 x111 x112 x113 x114 x115 x116 x117 x118 x119 x120 x121 x122 x123 x124 x125 x126 x127 x128 x129 x130 x131 x132 x133 x134 x135 x136 x137 x138 x139 x140 x141 x142 x143 x144 x145 x146 x147 x148 x149 x150 x151 x152 x153 x154 x155 x156 x157 x158 x159 x160 x161 x162 x163 x164 x165 x166 x167 x168 x169 x170 x171 x172 x173 x174 x175 x176 x177 x178 x179 x180 x181 x182 x183 x184 x185 x186 x187 x188 x189 x190 x191 x192 x193 x194 x195 x196 x197 x198 x199 x200 x201 x202 x203 x204 x205 x206 x207 x208 x209 x210 x211 x212 x213 x214 x215 x216 x217 x218 x219 x220 x221 x222 x223 x224 x225 x226 : Value) (K : Act → World → Prop) (Q' : Exit → Act → World → Prop)
    (hs : Vs w (fun b => b < w.heap.size) A c (texts a)) (hna : n = a.length) (hn : n ≤ 24) (hxa : ∀ x ∈ a, x.length ≤ 9223372036854775806)
    (hE : ∀ w', Below w.heap.size w w' → w'.cell? ⟨bE, oE + k * 3, none⟩ = some (.int .i64 p) ∧ w'.cell? ⟨bE, oE + k * 3 + 1, none⟩ = some (.int .i64 d) ∧ w'.cell? ⟨bE, oE + k * 3 + 2, none⟩ = some (.slice Ae I ce)) (_hbE : bE < w.heap.size)
    (_hlt : k < N) (_hN20 : N ≤ 20) (hl0 : L0.length ≤ 100000) (hmk : MK w wc w.heap.size go cap V e vi gh X0 X1 X2 X3 v0 (L0)) (hB : B = (findB 8 (Try.f21.body.getD .skip)).getD .skip) (hr1 : r ≤ 1000) (hqn : q ≤ n) 
    (hK : ∀ (u10 u19 u186 u187 u188 u189 u190 u191 u192 u193 u194 u195 u196 u197 u198 u199 u200 u201 u202 u203 u204 u205 u206 u207 u208 u209 u210 u211 : Value) (wx : World), (∃ (j : Nat) (v' : Value), u10 = .int .i64 j ∧ j ≤ n ∧ (ls = false → j ≤ q ∧ q ≤ j) ∧ MK w wx w.heap.size go cap V e vi gh X0 X1 X2 X3 v' (L0 ++ (if ls then mk 32 ((a.drop q).take r) else []))) → K { tmps := #[.slice A n c, .slice (some ⟨bE, oE, none⟩) N c', .int .i64 (r : Int), x3, x4, x5, x6, x7, x8, x9, u10, x11, .int .i64 (k : Int), x13, x14, .pointer (some ⟨gh, 0, none⟩), x16, x17, .bool ls, u19, x20, x21, x22, x23, x24, x25, x26, x27, x28, x29, x30, x31, x32, x33, x34, x35, x36, x37, x38, x39, x40, x41, x42, x43, x44, x45, x46, x47, x48, x49, x50, x51, x52, x53, x54, x55, x56, x57, x58, x59, x60, x61, x62, x63, x64, x65, x66, x67, x68, x69, x70, x71, x72, x73, x74, x75, x76, x77, x78, x79, x80, x81, x82, x83, x84, x85, x86, x87, x88, x89, x90, x91, x92, x93, x94, x95, x96, x97, x98, x99, x100, x101, x102, x103, x104, x105, x106, x107, x108, x109, x110, x111, x112, x113, x114, x115, x116, x117, x118, x119, x120, x121, x122, x123, x124, x125, x126, x127, x128, x129, x130, x131, x132, x133, x134, x135, x136, x137, x138, x139, x140, x141, x142, x143, x144, x145, x146, x147, x148, x149, x150, x151, x152, x153, x154, x155, x156, x157, x158, x159, x160, x161, x162, x163, x164, x165, x166, x167, x168, x169, x170, x171, x172, x173, x174, x175, x176, x177, x178, x179, x180, x181, x182, x183, x184, x185, u186, u187, u188, u189, u190, u191, u192, u193, u194, u195, u196, u197, u198, u199, u200, u201, u202, u203, u204, u205, u206, u207, u208, u209, u210, u211, x212, x213, x214, x215, x216, x217, x218, x219, x220, x221, x222, x223, x224, x225, x226], defers := [] } wx) :
    Code.wp Try.prog (B) (Exit.then K Q') { tmps := #[.slice A n c, .slice (some ⟨bE, oE, none⟩) N c', .int .i64 (r : Int), x3, x4, x5, x6, x7, x8, x9, .int .i64 (q : Int), x11, .int .i64 (k : Int), x13, x14, .pointer (some ⟨gh, 0, none⟩), x16, x17, .bool ls, .int .i64 0, x20, x21, x22, x23, x24, x25, x26, x27, x28, x29, x30, x31, x32, x33, x34, x35, x36, x37, x38, x39, x40, x41, x42, x43, x44, x45, x46, x47, x48, x49, x50, x51, x52, x53, x54, x55, x56, x57, x58, x59, x60, x61, x62, x63, x64, x65, x66, x67, x68, x69, x70, x71, x72, x73, x74, x75, x76, x77, x78, x79, x80, x81, x82, x83, x84, x85, x86, x87, x88, x89, x90, x91, x92, x93, x94, x95, x96, x97, x98, x99, x100, x101, x102, x103, x104, x105, x106, x107, x108, x109, x110, x111, x112, x113, x114, x115, x116, x117, x118, x119, x120, x121, x122, x123, x124, x125, x126, x127, x128, x129, x130, x131, x132, x133, x134, x135, x136, x137, x138, x139, x140, x141, x142, x143, x144, x145, x146, x147, x148, x149, x150, x151, x152, x153, x154, x155, x156, x157, x158, x159, x160, x161, x162, x163, x164, x165, x166, x167, x168, x169, x170, x171, x172, x173, x174, x175, x176, x177, x178, x179, x180, x181, x182, x183, x184, x185, x186, x187, x188, x189, x190, x191, x192, x193, x194, x195, x196, x197, x198, x199, x200, x201, x202, x203, x204, x205, x206, x207, x208, x209, x210, x211, x212, x213, x214, x215, x216, x217, x218, x219, x220, x221, x222, x223, x224, x225, x226], defers := [] } wc := by
  have Hs := hide hs
  have HA := hide hna
  have HxA := hide hxa
  have HE := hide hE
  have Hl0 := hide hl0
  have HM0 := hide hmk
  have HK := hide hK
  clear hs hna hxa hE hl0 hmk hK
  subst hB
  conv => arg 2; whnf

  go_wp2_with fail
  go_loopw [10, 19] (fun y ui wr => ∃ (i j : Nat) (v' : Value), (i ≤ r ∧ j ≤ q + i ∧ q + i ≤ j ∧ j ≤ n ∧ (ls = false → i = 0)) ∧ ui = .int .i64 i ∧ y = .int .i64 j ∧ MK w wr w.heap.size go cap V e vi gh X0 X1 X2 X3 v' (L0 ++ mk 32 ((a.drop q).take (j - q)))) (fun _ ui _ => r - (intOf ui).toNat)
  case atStart => exact ⟨0, q, _, ⟨by omega, by omega, by omega, by omega, fun _ => rfl⟩, rfl, rfl, by simpa [mk_nil] using HM0.out⟩
  case round =>
    obtain ⟨i, j, v', ⟨hir, hj1, hj2, hjn', hl0⟩, rfl, rfl, hmk⟩ := hrel
    have HMa := hide hmk
    have Hl0' := hide hl0
    clear hmk hl0
    by_cases hgo : i < r ∧ ls = true ∧ j < n
    · obtain ⟨hlj, hlt', hjn⟩ := hgo
      have dd1 : decide (i < r) = true := decide_eq_true hlj
      have dd2 : decide (j < n) = true := decide_eq_true hjn
      subst hlt'
      clear Hl0'
      obtain ⟨b, o, hA, ck⟩ := Hs.out.text HMa.out.low (k := j) (by have := HA.out; omega)
      have hbw : b < w.heap.size := by
        obtain ⟨b', o', hA', hp', _⟩ := Hs.out.2 (by rw [texts_len]; have := HA.out; omega)
        rw [hA] at hA'
        injection hA' with hA'
        injection hA' with hA' _ _
        rw [hA']; exact hp'
      subst hA
      have hxl := HxA.out (a.getD j []) (by
        have h1 : j < a.length := by have := HA.out; omega
        have h2 : a.getD j [] = a[j] := by simp [List.getElem?_eq_getElem h1]
        rw [h2]; exact List.getElem_mem h1)
      have Hsn := hide (run_more a q j (by omega) (by have := HA.out; omega))
      obtain ⟨x, hx⟩ : ∃ x, x = a.getD j [] := ⟨_, rfl⟩
      rw [← hx] at ck hxl Hsn
      clear hx
      have ea := app_txt [32] x
      have hX1 : ¬ 9223372036854775807 < 1 + x.length := by omega
      have hX2 : ¬ 9223372036854775807 < x.length + 1 := by omega
      have Hnx := hide (show L0 ++ mk 32 ((a.drop q).take (j + 1 - q)) = (L0 ++ mk 32 ((a.drop q).take (j - q))) ++ [32 :: x] by
        rw [Hsn.out, mk_append, ← List.append_assoc]; rfl)
      have Hpl := hide (show (L0 ++ mk 32 ((a.drop q).take (j - q))).length ≤ 500000 by
        rw [List.length_append, mk_len, List.length_take]; have := Hl0.out; omega)
      clear Hsn
      go_wp2
      have q4 := HMa.out.cells.2.2.2.2
      refine Rg.wp_region_ord (fun w' => w'.cell? ⟨gh, 4, none⟩ = some v' ∧ w'.cell? ⟨b, o + j, none⟩ = some (.string ⟨x.toArray⟩)) [(0, true), (1, true), (2, true), (3, true), (4, true), (5, true), (6, true), (7, false), (8, false), (9, true), (10, false)] (by kernel_rfl) (by kernel_rfl) ?_
      simp only [Rg.pick, List.map_cons, List.map_nil, List.getD_cons_zero, List.getD_cons_succ]
      iterate 7 (refine Rg.ord_quiet (v := ?_) rfl (fun w' hS => ?_) ⟨q4, ck⟩ ?_; rotate_left; (obtain ⟨s4, sk⟩ := hS; go_simp; with_reducible rfl); simp only [Act.put, List.setIfInBounds_toArray, List.set_cons_succ, List.set_cons_zero])
      refine Rg.ord_loud rfl (fun K hK => ?_)
      go_simp
      refine hK _ _ (fun hf => ⟨cell_keep ((Below.refl _ _).alloc (Nat.le_refl _) _).drew q4, cell_keep ((Below.refl _ _).alloc (Nat.le_refl _) _).drew ck⟩) ?_
      clear hK K
      refine Rg.ord_loud rfl (fun K hK => ?_)
      have HMd := hide HMa.out.drew
      refine wp_pushT (.tmp 201) (.tmp 207) rfl w.heap.size wr.drew v' (L0 ++ mk 32 ((a.drop q).take (j - q))) (32 :: x) _ rfl rfl rfl HMd.out.own (by have := Hpl.out; omega) (Below.refl _ _) (by have := HMd.out.low.size; exact this) ?_
      intro v7 w7 hv7 hb7 hg7 hbl7
      obtain ⟨A7, n7, c7, rfl⟩ := owt_form hv7
      have e4 := (HMd.out.grown hg7).cell 4
      have f4 := (HMd.out.grown hg7).free 4
      simp only [List.getElem?_cons_zero, List.getElem?_cons_succ] at e4
      have HM7 := hide (HMd.out.step hv7 hg7 (hbl7.imp id fun h => ⟨_, h, Nat.le_succ _⟩))
      have hk7 : ∀ (p : Addr) (u : Value), wr.cell? p = some u → p.block < w.heap.size → w7.cell? p = some u := fun p u hc hp => (World.cell?_of_block (w := wr.drew) (a := p) (hg7.block p.block (World.block_lt_of_cell? wr.drew _ hc) (fun e => by have h1 := (World.ownsRow.lt HMd.out.own p.block e.symm).1; omega))).trans hc
      have ck7 := hk7 ⟨b, o + j, none⟩ _ ck hbw
      clear hbw
      clear q4 hv7 hb7 hg7 hbl7 hk7
      refine hK _ _ (fun _ => ⟨e4, ck7⟩) ?_
      clear hK K
      try simp only [Act.put, List.setIfInBounds_toArray, List.set_cons_succ, List.set_cons_zero]
      iterate 1 (refine Rg.ord_quiet (v := ?_) rfl (fun w' hS => ?_) ⟨e4, ck7⟩ ?_; rotate_left; (obtain ⟨s4, sk⟩ := hS; go_simp; with_reducible rfl); simp only [Act.put, List.setIfInBounds_toArray, List.set_cons_succ, List.set_cons_zero])
      refine Rg.ord_loud rfl (fun K hK => ?_)
      go_simp
      refine hK _ _ (fun hf => absurd (show Rg.sink _ 10 = true from by kernel_rfl) (by rw [hf]; decide)) ?_
      clear hK K e4 f4 ck7
      refine Rg.ord_nil ?_
      go_wp2
      exact ⟨⟨i + 1, j + 1, _, ⟨by omega, by omega, by omega, by omega, fun h => by cases h⟩, by go_num, by go_num, by rw [Hnx.out]; exact HM7.out⟩, by simp [intOf]; omega⟩
    · have Hend := hide (show mk 32 ((a.drop q).take (j - q)) = (if ls then mk 32 ((a.drop q).take r) else []) from by
        cases hle : ls with
        | false =>
          have h0 := Hl0'.out hle
          have h1 : j - q = 0 := by omega
          rw [h1, List.take_zero]; rfl
        | true =>
          rw [if_pos rfl]
          congr 1
          by_cases hi : i < r
          · have h1 : ¬ j < n := fun h => hgo ⟨hi, hle, h⟩
            have h2 := HA.out
            rw [List.take_of_length_le (by rw [List.length_drop]; omega), List.take_of_length_le (by rw [List.length_drop]; omega)]
          · have h1 : j - q = r := by omega
            rw [h1])
      have Hjq := hide (show ls = false → j ≤ q ∧ q ≤ j from fun h => by have := Hl0'.out h; omega)
      have Hgo := hide hgo
      clear hgo Hl0'
      by_cases hi : i < r
      · have dd1 : decide (i < r) = true := decide_eq_true hi
        cases hle : ls with
        | false =>
          subst hle
          go_wp2
          refine HK.out _ _ _ _ _ _ _ _ _ _ _ _ _ _ _ _ _ _ _ _ _ _ _ _ _ _ _ _ _ ?_
          exact ⟨j, v', rfl, hjn', Hjq.out, by rw [← Hend.out]; exact HMa.out⟩
        | true =>
          have h1 : ¬ j < n := fun h => Hgo.out ⟨hi, hle, h⟩
          have dd2 : decide (j < n) = false := decide_eq_false h1
          subst hle
          go_wp2
          refine HK.out _ _ _ _ _ _ _ _ _ _ _ _ _ _ _ _ _ _ _ _ _ _ _ _ _ _ _ _ _ ?_
          exact ⟨j, v', rfl, hjn', Hjq.out, by rw [← Hend.out]; exact HMa.out⟩
      · have dd1 : decide (i < r) = false := decide_eq_false hi
        go_wp2
        refine HK.out _ _ _ _ _ _ _ _ _ _ _ _ _ _ _ _ _ _ _ _ _ _ _ _ _ _ _ _ _ ?_
        exact ⟨j, v', rfl, hjn', Hjq.out, by rw [← Hend.out]; exact HMa.out⟩
end Go.Proofs.Ytfmmececocilhaa.Hu
