/-
  What the reference's spread comes to.
-/
import Derived.Test.YtcmjdepjckhpdabDoorQLwA
import Derived.Test.YtcmjdepjckhpdabDoorRegC
namespace Go.Proofs.YtcmjdepjckhpdabDoor.Dg
open Go Go.RowKit Kt Sha

/-- a list of numbers of 32 bits in a row of the call's own -/
def OwnW (w : World) (B : Nat) (v : Value) (l : List Nat) : Prop := w.ownsRow B 70 1 v l.length (u32s l)
theorem OwnW.nil (w : World) (B : Nat) : OwnW w B (.slice none 0 0) [] := World.ownsRow_nil w B 70 1
theorem OwnW.form {w : World} {B : Nat} {v : Value} {l : List Nat} (h : OwnW w B v l) (hn : 0 < l.length) : ∃ g cap, v = .slice (some ⟨g, 0, none⟩) l.length cap ∧ B ≤ g ∧ g < w.heap.size := World.ownsRow.form h hn
theorem OwnW.cell {w : World} {B g c : Nat} {l : List Nat} (h : OwnW w B (.slice (some ⟨g, 0, none⟩) l.length c) l) (j : Nat) (hj : j < l.length) : w.cell? ⟨g, j, none⟩ = some (.int .u32 (l.getD j 0 : Nat)) := by
  rw [World.ownsRow.cellAt h j (by omega), u32s_get _ _ hj]
theorem OwnW.kept {w w' : World} {B : Nat} {v : Value} {l : List Nat} (h : OwnW w B v l) (hb : Below w.heap.size w w') : OwnW w' B v l := by
  refine ⟨h.1, ?_⟩
  rcases h.2 with ⟨h1, h2⟩ | ⟨g, cap, cur, hv', h1, h2, h3⟩
  · exact .inl ⟨h1, h2⟩
  · exact .inr ⟨g, cap, cur, hv', h1, (hb.block g (World.ownsRow.lt h g (by rw [hv']; rfl)).2).trans h2, h3⟩
theorem infoW : (Tryd.prog.info? 70).map (fun i => (i.zero, i.size, i.bytes)) = some (some (.int .u32 0), 1, 4) := by kernel_rfl
theorem ord_pushW {ops : Array Oper} {Q : Exit → Act → World → Prop} {S : World → Prop} {n : Nat} {o : Oper} {rest : List (Nat × Oper × Bool)} {a : Act} {w : World} {cs : Array Value} (W : World) (hW : w = W.alloc (.cells cs 70))
    (hgd : o.guard = none) (s x : Operand) (ho : o.op = .call { callee := .builtin .append, args := #[s, x], argTypes := #[71, 71] })
    (B : Nat) (w0 : World) (v : Value) (l : List Nat) (y : Nat) (c : Nat) (hs : a.eval s = v) (hx : a.eval x = .slice (some ⟨W.heap.size, 0, none⟩) 1 c)
    (hown : OwnW W B v l) (hc : cs = (u32s [y]).toArray) (hlen : l.length + 1 ≤ 7036874417766) (hb : Below B w0 W) (hbase : B ≤ W.heap.size)
    (h : ∀ v' w', OwnW w' B v' (l ++ [y]) → Below B w0 w' → (Rg.sink ops n = false → S w') ∧ Rg.wpOrd Tryd.prog ops Q S rest (a.put o.dst v') w') : Rg.wpOrd Tryd.prog ops Q S ((n, o, false) :: rest) a w := by
  subst hW hc
  obtain ⟨i0, hi0, hz0, hz1, hz2⟩ := info_parts infoW
  refine Rg.ord_loud (by simp [Region.wanted, hgd]) fun K hK => ?_
  refine wp_append_own _ s x 71 ho B 70 i0 (.int .u32 0) 1 4 Tryd.underlying71 hi0 hz0 hz1 hz2 rfl (by omega) v l.length (u32s l) hs (World.ownsRow.alloc hown _) ⟨W.heap.size, 0, none⟩ 1 c (u32s [y]) hx rfl
    (fun j u hu => ?_) (u32s_one _) (by unfold maxLen; omega) (by omega) (by simp; omega) (fun v' w' h1 h2 _ => ?_)
  · rw [Addr.add_mid, (Row.fresh W 70 (u32s [y]).toArray).cell]
    simpa using hu
  · have hg := grownBy_back _ h2
    have h3 : OwnW w' B v' (l ++ [y]) := by
      unfold OwnW
      rw [List.length_append, u32s_append]
      exact h1
    have := h v' w' h3 (hb.grown hg hbase fun k hk => (World.ownsRow.lt hown k hk).1)
    exact hK _ _ this.1 this.2

theorem ord_pushC {ops : Array Oper} {Q : Exit → Act → World → Prop} {S : World → Prop} {n : Nat} {o : Oper} {rest : List (Nat × Oper × Bool)} {a : Act} {w : World} {cs : Array Value} (W : World) (hW : w = W.alloc (.cells cs 70))
    (hgd : o.guard = none) (s x : Operand) (ho : o.op = .call { callee := .builtin .append, args := #[s, x], argTypes := #[71, 71] })
    (B : Nat) (w0 : World) (v : Value) (l : List Nat) (y : Nat) (c : Nat) (hs : a.eval s = v) (hx : a.eval x = .slice (some ⟨W.heap.size, 0, none⟩) 1 c)
    (hown : OwnW W B v l) (hc : cs = (u32s [y]).toArray) (hlen : l.length + 1 ≤ 7036874417766) (hb : Below B w0 W) (hbase : B ≤ W.heap.size)
    (h : ∀ v' w', OwnW w' B v' (l ++ [y]) → Below B w0 w' → (Rc.sink ops n = false → S w') ∧ Rc.wpOrd Tryd.prog ops Q S rest (a.put o.dst v') w') : Rc.wpOrd Tryd.prog ops Q S ((n, o, false) :: rest) a w := by
  subst hW hc
  obtain ⟨i0, hi0, hz0, hz1, hz2⟩ := info_parts infoW
  refine Rc.ord_loud (by simp [Region.wanted, hgd]) fun K hK => ?_
  refine wp_append_own _ s x 71 ho B 70 i0 (.int .u32 0) 1 4 Tryd.underlying71 hi0 hz0 hz1 hz2 rfl (by omega) v l.length (u32s l) hs (World.ownsRow.alloc hown _) ⟨W.heap.size, 0, none⟩ 1 c (u32s [y]) hx rfl
    (fun j u hu => ?_) (u32s_one _) (by unfold maxLen; omega) (by omega) (by simp; omega) (fun v' w' h1 h2 _ => ?_)
  · rw [Addr.add_mid, (Row.fresh W 70 (u32s [y]).toArray).cell]
    simpa using hu
  · have hg := grownBy_back _ h2
    have h3 : OwnW w' B v' (l ++ [y]) := by
      unfold OwnW
      rw [List.length_append, u32s_append]
      exact h1
    have := h v' w' h3 (hb.grown hg hbase fun k hk => (World.ownsRow.lt hown k hk).1)
    exact hK _ _ this.1 this.2

theorem word_sum (bs : List UInt8) (k : Nat) : word bs k = (bs.getD (4 * k) 0).toNat * 16777216 + (bs.getD (4 * k + 1) 0).toNat * 65536 + (bs.getD (4 * k + 2) 0).toNat * 256 + (bs.getD (4 * k + 3) 0).toNat := by
  unfold word
  have h0 := toNat_lt (bs.getD (4 * k) 0)
  have h1 := toNat_lt (bs.getD (4 * k + 1) 0)
  have h2 := toNat_lt (bs.getD (4 * k + 2) 0)
  have h3 := toNat_lt (bs.getD (4 * k + 3) 0)
  generalize (bs.getD (4 * k) 0).toNat = x0 at *
  generalize (bs.getD (4 * k + 1) 0).toNat = x1 at *
  generalize (bs.getD (4 * k + 2) 0).toNat = x2 at *
  generalize (bs.getD (4 * k + 3) 0).toNat = x3 at *
  have e1 : x0 * 16777216 ||| x1 * 65536 = x0 * 16777216 + x1 * 65536 := nat_join 24 _ _ (by omega) (by omega)
  have e2 : (x0 * 16777216 + x1 * 65536) ||| x2 * 256 = (x0 * 16777216 + x1 * 65536) + x2 * 256 := nat_join 16 _ _ (by omega) (by omega)
  have e3 : (x0 * 16777216 + x1 * 65536 + x2 * 256) ||| x3 = (x0 * 16777216 + x1 * 65536 + x2 * 256) + x3 := nat_join 8 _ _ (by omega) (by omega)
  rw [e1, e2, e3]

set_option maxHeartbeats 1000000 in
set_option maxRecDepth 100000 in
theorem rspread_any (bs : List UInt8) (b o c : Nat) (w : World) (hs : ∀ j, j < 64 → w.cell? ⟨b, o + j, none⟩ = some (.int .u8 ((bs.getD j 0).toNat : Int))) :
    Calls Tryd.prog 27 #[.slice (some ⟨b, o, none⟩) 64 c] w fun e w' => ∃ v, e = .returned v ∧ OwnW w' w.heap.size v (ext bs 64) ∧ Below w.heap.size w w' := by
  have Hs := hide hs
  have hbl := World.block_lt_of_cell? w ⟨b, o + 0, none⟩ (hs 0 (by omega))
  clear hs
  go_enter Tryd.func27, Tryd.ntmps27
  go_wp2
  go_loopw [3, 4] (fun v i wr => ∃ k : Nat, k ≤ 16 ∧ i = .int .i64 k ∧ OwnW wr w.heap.size v (ext bs k) ∧ Below w.heap.size w wr) (fun _ i _ => 16 - (intOf i).toNat)
  case atStart => exact ⟨0, by omega, rfl, OwnW.nil _ _, Below.refl _ _⟩
  case round =>
    obtain ⟨k, hk, rfl, hown, hb⟩ := hrel
    have Hown := hide hown
    have Hb := hide hb
    clear hown hb
    by_cases hlt : k < 16
    · have hc := fun j (hj : j < 64) => (Hb.out.cell (p := ⟨b, o + j, none⟩) hbl).trans (Hs.out j hj)
      have c0 := hc (4 * k) (by omega)
      have c1 := hc (4 * k + 1) (by omega)
      have c2 := hc (4 * k + 2) (by omega)
      have c3 := hc (4 * k + 3) (by omega)
      clear hc
      have b0 := toNat_lt (bs.getD (4 * k) 0)
      have b1 := toNat_lt (bs.getD (4 * k + 1) 0)
      have b2 := toNat_lt (bs.getD (4 * k + 2) 0)
      have b3 := toNat_lt (bs.getD (4 * k + 3) 0)
      have hw := hide (word_sum bs k)
      have Hext := hide (ext_succ bs k)
      have Hlen := hide (ext_len bs k)
      generalize (bs.getD (4 * k) 0).toNat = x0 at *
      generalize (bs.getD (4 * k + 1) 0).toNat = x1 at *
      generalize (bs.getD (4 * k + 2) 0).toNat = x2 at *
      generalize (bs.getD (4 * k + 3) 0).toNat = x3 at *
      obtain ⟨i0, hi0⟩ : ∃ i0, i0 = 4 * k := ⟨_, rfl⟩
      obtain ⟨i1, hi1⟩ : ∃ i1, i1 = 4 * k + 1 := ⟨_, rfl⟩
      obtain ⟨i2, hi2⟩ : ∃ i2, i2 = 4 * k + 2 := ⟨_, rfl⟩
      obtain ⟨i3, hi3⟩ : ∃ i3, i3 = 4 * k + 3 := ⟨_, rfl⟩
      rw [← hi0] at c0
      rw [← hi1] at c1
      rw [← hi2] at c2
      rw [← hi3] at c3
      have l0 : (i0 : Int) < 64 := by omega
      have l1 : (i1 : Int) < 64 := by omega
      have l2 : (i2 : Int) < 64 := by omega
      have l3 : (i3 : Int) < 64 := by omega
      have W0 : IntKind.i64.wrap (4 * (k : Int)) = (i0 : Int) := by rw [IntWalk.i64_in _ (by omega)]; omega
      have W1 : IntKind.i64.wrap ((i0 : Int) + 1) = (i1 : Int) := by rw [IntWalk.i64_in _ (by omega)]; omega
      have W2 : IntKind.i64.wrap ((i0 : Int) + 2) = (i2 : Int) := by rw [IntWalk.i64_in _ (by omega)]; omega
      have W3 : IntKind.i64.wrap ((i0 : Int) + 3) = (i3 : Int) := by rw [IntWalk.i64_in _ (by omega)]; omega
      clear hi0 hi1 hi2 hi3
      have U0 : IntKind.u32.wrap (x0 : Int) = (x0 : Int) := by rw [IntKind.wrap_u32']; omega
      have U1 : IntKind.u32.wrap (x1 : Int) = (x1 : Int) := by rw [IntKind.wrap_u32']; omega
      have U2 : IntKind.u32.wrap (x2 : Int) = (x2 : Int) := by rw [IntKind.wrap_u32']; omega
      have U3 : IntKind.u32.wrap (x3 : Int) = (x3 : Int) := by rw [IntKind.wrap_u32']; omega
      have V0 : IntKind.u32.wrap (16777216 * (x0 : Int)) = 16777216 * (x0 : Int) := by rw [IntKind.wrap_u32']; omega
      have V1 : IntKind.u32.wrap (65536 * (x1 : Int)) = 65536 * (x1 : Int) := by rw [IntKind.wrap_u32']; omega
      have V2 : IntKind.u32.wrap (256 * (x2 : Int)) = 256 * (x2 : Int) := by rw [IntKind.wrap_u32']; omega
      have T1 : IntKind.u32.wrap (16777216 * (x0 : Int) + 65536 * (x1 : Int)) = 16777216 * (x0 : Int) + 65536 * (x1 : Int) := by rw [IntKind.wrap_u32']; omega
      have T2 : IntKind.u32.wrap (16777216 * (x0 : Int) + 65536 * (x1 : Int) + 256 * (x2 : Int)) = 16777216 * (x0 : Int) + 65536 * (x1 : Int) + 256 * (x2 : Int) := by rw [IntKind.wrap_u32']; omega
      have T3 : IntKind.u32.wrap (16777216 * (x0 : Int) + 65536 * (x1 : Int) + 256 * (x2 : Int) + (x3 : Int)) = 16777216 * (x0 : Int) + 65536 * (x1 : Int) + 256 * (x2 : Int) + (x3 : Int) := by rw [IntKind.wrap_u32']; omega
      go_wp2
      have hSd := hide Hb.out.drew
      refine Rg.wp_region_ord (fun w' => w'.cell? ⟨b, o + i0, none⟩ = some (.int .u8 (x0 : Int)) ∧ w'.cell? ⟨b, o + i1, none⟩ = some (.int .u8 (x1 : Int)) ∧ w'.cell? ⟨b, o + i2, none⟩ = some (.int .u8 (x2 : Int)) ∧ w'.cell? ⟨b, o + i3, none⟩ = some (.int .u8 (x3 : Int)))
        [(0, true), (1, true), (2, true), (3, true), (4, true), (5, true), (6, true), (7, true), (8, true), (9, true), (10, true), (11, true), (12, true), (13, true), (14, true), (15, true), (16, true), (17, true), (18, true), (19, true), (20, true), (21, true), (22, true), (23, true), (24, true), (25, true), (26, true), (27, true), (28, true), (29, true), (30, true), (31, true), (32, true), (33, true), (34, false), (35, false), (36, true)] (by kernel_rfl) (by kernel_rfl) ?_
      simp only [Rg.pick, List.map_cons, List.map_nil, List.getD_cons_zero, List.getD_cons_succ]
      have hS0 := hide (show wr.drew.cell? ⟨b, o + i0, none⟩ = some (.int .u8 (x0 : Int)) ∧ wr.drew.cell? ⟨b, o + i1, none⟩ = some (.int .u8 (x1 : Int)) ∧ wr.drew.cell? ⟨b, o + i2, none⟩ = some (.int .u8 (x2 : Int)) ∧ wr.drew.cell? ⟨b, o + i3, none⟩ = some (.int .u8 (x3 : Int)) from ⟨c0, c1, c2, c3⟩)
      iterate 34 (refine Rg.ord_quiet (v := ?_) rfl (fun w' hS => ?_) hS0.out ?_; rotate_left; (obtain ⟨d0, d1, d2, d3⟩ := hS; go_simp; with_reducible rfl))
      refine Rg.ord_loud rfl (fun K hK => ?_)
      go_simp
      have hlk : (ext bs k).length = k := Hlen.out
      have hlw : word bs k < 4294967296 := by rw [hw.out]; omega
      have hblr : b < wr.drew.heap.size := Nat.lt_of_lt_of_le hbl Hb.out.size
      refine hK _ _ (fun _ => ⟨?_, ?_, ?_, ?_⟩) ?_
      iterate 4 (rotate_left)
      · clear hK K
        refine ord_pushW wr.drew rfl rfl (.tmp 14) (.tmp 48) rfl w.heap.size w _ (ext bs k) (word bs k) 1 rfl rfl Hown.out.drew ?_ ?_ hSd.out ?_ ?_
        · simp only [u32s, List.map_cons, List.map_nil, hw.out]
          refine congrArg (fun x : Int => #[Value.int .u32 x]) ?_
          omega
        · rw [hlk]; omega
        · exact Nat.le_trans Hb.out.size (Nat.le_refl _)
        · intro v' w1 hown1 hb1
          have hold : ∀ (i x : Nat), wr.cell? ⟨b, o + i, none⟩ = some (.int .u8 (x : Int)) → w1.cell? ⟨b, o + i, none⟩ = some (.int .u8 (x : Int)) := fun i x hx =>
            (hb1.cell (p := ⟨b, o + i, none⟩) hbl).trans ((Hb.out.cell (p := ⟨b, o + i, none⟩) hbl).symm.trans hx)
          have hS2 := hide (show w1.cell? ⟨b, o + i0, none⟩ = some (.int .u8 (x0 : Int)) ∧ w1.cell? ⟨b, o + i1, none⟩ = some (.int .u8 (x1 : Int)) ∧ w1.cell? ⟨b, o + i2, none⟩ = some (.int .u8 (x2 : Int)) ∧ w1.cell? ⟨b, o + i3, none⟩ = some (.int .u8 (x3 : Int)) from ⟨hold _ _ c0, hold _ _ c1, hold _ _ c2, hold _ _ c3⟩)
          refine ⟨fun _ => hS2.out, ?_⟩
          refine Rg.ord_quiet (v := ?_) rfl (fun w' hS => ?_) hS2.out ?_; rotate_left
          · go_simp; with_reducible rfl
          refine Rg.ord_nil ?_
          have Hown1 := hide hown1
          have Hb1 := hide hb1
          clear hown1 hb1 hold
          go_wp2
          go_roundw
          case rel =>
            refine ⟨k + 1, by omega, ?_, ?_, Hb1.out⟩
            · rw [Int.natCast_add]; rfl
            · rw [Hext.out, if_pos hlt]
              exact Hown1.out
          all_goals (simp only [intOf]; omega)
      · exact (World.cell?_alloc_lt wr _ _ hblr).trans c0
      · exact (World.cell?_alloc_lt wr _ _ hblr).trans c1
      · exact (World.cell?_alloc_lt wr _ _ hblr).trans c2
      · exact (World.cell?_alloc_lt wr _ _ hblr).trans c3
    · obtain rfl : k = 16 := by omega
      clear hk hlt
      rw [show ((16 : Nat) : Int) = 16 from rfl]
      go_wp2
      go_loopw [3, 5] (fun v i wr => ∃ k : Nat, 16 ≤ k ∧ k ≤ 64 ∧ i = .int .i64 k ∧ OwnW wr w.heap.size v (ext bs k) ∧ Below w.heap.size w wr) (fun _ i _ => 64 - (intOf i).toNat)
      case atStart => exact ⟨16, by omega, by omega, rfl, Hown.out, Hb.out⟩
      case round =>
        clear Hown Hb
        obtain ⟨k, hk0, hk, rfl, hown, hb⟩ := hrel
        have Hb := hide hb
        by_cases hlt : k < 64
        · obtain ⟨g, cap, rfl, hg1, hg2⟩ := hown.form (by rw [ext_len]; omega)
          have Hown := hide hown
          have Hownk : Hid (OwnW wr w.heap.size (.slice (some ⟨g, 0, none⟩) (k : Nat) cap) (ext bs k)) := by
            have h := hown
            rw [ext_len] at h
            exact h
          clear hown hb
          have Hlen := hide (ext_len bs k)
          have hc := fun (j : Nat) (hj : j < k) => Hown.out.cell j (by rw [Hlen.out]; exact hj)
          have Hext := hide (ext_succ bs k)
          have hnx : Hid (nextw (ext bs k) k = ((ext bs k).getD (k - 16) 0 + sg0 ((ext bs k).getD (k - 15) 0) + (ext bs k).getD (k - 7) 0 + sg1 ((ext bs k).getD (k - 2) 0)) % 4294967296) := rfl
          have c16 := hc (k - 16) (by omega)
          have c15 := hc (k - 15) (by omega)
          have c7 := hc (k - 7) (by omega)
          have c2 := hc (k - 2) (by omega)
          have b16 := ext_getD_lt bs k (k - 16)
          have b15 := ext_getD_lt bs k (k - 15)
          have b7 := ext_getD_lt bs k (k - 7)
          have b2 := ext_getD_lt bs k (k - 2)
          clear hc
          generalize (ext bs k).getD (k - 16) 0 = y16 at *
          generalize (ext bs k).getD (k - 15) 0 = y15 at *
          generalize (ext bs k).getD (k - 7) 0 = y7 at *
          generalize (ext bs k).getD (k - 2) 0 = y2 at *
          obtain ⟨i16, hi16⟩ : ∃ i, i = k - 16 := ⟨_, rfl⟩
          obtain ⟨i15, hi15⟩ : ∃ i, i = k - 15 := ⟨_, rfl⟩
          obtain ⟨i7, hi7⟩ : ∃ i, i = k - 7 := ⟨_, rfl⟩
          obtain ⟨i2, hi2⟩ : ∃ i, i = k - 2 := ⟨_, rfl⟩
          rw [← hi16] at c16
          rw [← hi15] at c15
          rw [← hi7] at c7
          rw [← hi2] at c2
          have W16 : IntKind.i64.wrap ((k : Int) - 16) = (i16 : Int) := by rw [IntWalk.i64_in _ (by omega)]; omega
          have W15 : IntKind.i64.wrap ((k : Int) - 15) = (i15 : Int) := by rw [IntWalk.i64_in _ (by omega)]; omega
          have W7 : IntKind.i64.wrap ((k : Int) - 7) = (i7 : Int) := by rw [IntWalk.i64_in _ (by omega)]; omega
          have W2 : IntKind.i64.wrap ((k : Int) - 2) = (i2 : Int) := by rw [IntWalk.i64_in _ (by omega)]; omega
          have l16 : (i16 : Int) < (k : Int) := by omega
          have l15 : (i15 : Int) < (k : Int) := by omega
          have l7 : (i7 : Int) < (k : Int) := by omega
          have l2 : (i2 : Int) < (k : Int) := by omega
          clear hi16 hi15 hi7 hi2
          rw [Hlen.out]
          go_wp2_with (go_at_call 28; refine (rturn_any _ _ _ (by assumption) (by omega) (by omega)).mono ?_; rintro e w' ⟨rfl, rfl⟩)
          rw [sg0_val b15, sg1_val b2]
          have g0 := hide (sg0_lt b15)
          have g1 := hide (sg1_lt b2)
          generalize sg0 y15 = z0 at *
          generalize sg1 y2 = z1 at *
          have hSd := hide Hb.out.drew
          refine Rc.wp_region_ord (fun w' => w'.cell? ⟨g, i16, none⟩ = some (.int .u32 (y16 : Int)) ∧ w'.cell? ⟨g, i7, none⟩ = some (.int .u32 (y7 : Int)))
            [(0, true), (1, true), (2, true), (3, true), (4, true), (5, true), (6, true), (7, true), (8, true), (9, true), (10, true), (11, true), (12, true), (13, true), (14, true), (15, true), (16, false), (17, false), (18, false)] (by kernel_rfl) (by kernel_rfl) ?_
          simp only [Rg.pick, List.map_cons, List.map_nil, List.getD_cons_zero, List.getD_cons_succ]
          have hS0 := hide (show wr.drew.cell? ⟨g, i16, none⟩ = some (.int .u32 (y16 : Int)) ∧ wr.drew.cell? ⟨g, i7, none⟩ = some (.int .u32 (y7 : Int)) from ⟨c16, c7⟩)
          iterate 16 (refine Rc.ord_quiet (v := ?_) rfl (fun w' hS => ?_) hS0.out ?_; rotate_left; (obtain ⟨d16, d7⟩ := hS; go_simp; with_reducible rfl))
          refine Rc.ord_loud rfl (fun K hK => ?_)
          go_simp
          refine hK _ _ (fun _ => ⟨(World.cell?_alloc_lt wr _ _ hg2).trans c16, (World.cell?_alloc_lt wr _ _ hg2).trans c7⟩) ?_
          clear hK K
          refine ord_pushC wr.drew rfl rfl (.tmp 80) (.tmp 96) rfl w.heap.size w _ (ext bs k) (nextw (ext bs k) k) 1 rfl rfl ?_ ?_ ?_ hSd.out ?_ ?_
          · exact Hownk.out.drew
          · simp only [u32s, List.map_cons, List.map_nil, hnx.out]
            refine congrArg (fun x : Int => #[Value.int .u32 x]) ?_
            simp only [IntKind.wrap_u32']
            omega
          · rw [Hlen.out]; omega
          · exact Nat.le_trans Hb.out.size (Nat.le_refl _)
          · intro v' w1 hown1 hb1
            refine ⟨fun hf => absurd (show Rc.sink _ 17 = true from by kernel_rfl) (by rw [hf]; decide), ?_⟩
            refine Rc.ord_loud rfl (fun K hK => ?_)
            go_simp
            refine hK _ _ (fun hf => absurd (show Rc.sink _ 18 = true from by kernel_rfl) (by rw [hf]; decide)) ?_
            clear hK K
            refine Rc.ord_nil ?_
            have Hown1 := hide hown1
            have Hb1 := hide hb1
            clear hown1 hb1
            go_wp2
            go_roundw
            case rel =>
              refine ⟨k + 1, by omega, by omega, ?_, ?_, Hb1.out⟩
              · rw [Int.natCast_add]; rfl
              · rw [Hext.out, if_neg (by omega)]
                exact Hown1.out
            all_goals (simp only [intOf]; omega)
        · obtain rfl : k = 64 := by omega
          go_wp2
          go_ret
          exact ⟨_, rfl, hown, Hb.out⟩
end Go.Proofs.YtcmjdepjckhpdabDoor.Dg
