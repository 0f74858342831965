/-
  order: Ranks of up to fourteen.
-/
import Derived.Test.YtplmcpdlommmaaaCW
import Derived.Test.YtplmcpdlommmaaaQCO
namespace Go.Proofs.Ytplmcpdlommmaaa.Oq
open Go Go.RowKit Kt Kg Lw Tr Dq

set_option maxRecDepth 100000 in
set_option maxHeartbeats 4000000 in
/-- slices.SortFunc by rank -/
theorem sortF14_any {w : World} {g gd cap n : Nat} {D : List Nd} (H : Cmp w g D gd) {l : List Bs} (hO : OwT w 0 tId (slV g n cap) l) (hs : ∀ x ∈ l, x.length ≤ 50) (hn : n ≤ 12 ∨ n ≤ 14 ∧ l.Nodup) :
    Calls Try.prog 56 #[slV g n cap, .func (.func fCmp) #[.agg #[pt gd]] #[]] w fun y w' => y = .returned (.tuple #[]) ∧ ∃ l', OwT w' 0 tId (slV g n cap) l' ∧ w.grownBy w' (some g) ∧ l'.Perm l ∧ Asc D l' 0 n := by
  have hn14 : n ≤ 14 := by rcases hn with h | h <;> omega
  have HB := hide (blen_any n hn14 w)
  have HP := hide (show ∀ L : Nat, (8 ≤ n → L = 4) → Calls Try.prog 75 #[slV g n cap, .int .i64 0, .int .i64 n, .int .i64 (L : Int), .func (.func fCmp) #[.agg #[pt gd]] #[]] w fun y w' => y = .returned (.tuple #[]) ∧ ∃ l', OwT w' 0 tId (slV g n cap) l' ∧ w.grownBy w' (some g) ∧ l'.Perm l ∧ Asc D l' 0 n from fun L hL => by
    by_cases h12 : n ≤ 12
    · exact (pdqS_any H (World.grownBy.refl w (some g)) hO (by omega) hs 0 n (Nat.zero_le _) (Nat.le_refl _) (by omega) L).mono fun y w' ⟨q1, l', q2, q3, q4, q5⟩ => ⟨q1, l', q2, q3, q4.perm, q5⟩
    · have hL4 := hL (by omega)
      subst hL4
      exact pdqL_any H (World.grownBy.refl w (some g)) hO (by omega) hs (hn.elim (fun h => by omega) fun h => h.2))
  have wr1 : IntKind.u64.wrap (n : Int) = (n : Int) := by simp [IntKind.wrap, IntKind.bits, IntKind.signed]; omega
  clear H hO hs
  go_enter Try.func56, Try.ntmps56
  go_wp2_with fail
  refine HB.out.mono ?_
  rintro y w1 ⟨⟨L, rfl, _, hL⟩, rfl⟩
  have HL4 := hide hL
  clear HB hL hn hn14
  go_wp2_with fail
  refine (HP.out L HL4.out).mono ?_
  rintro y w2 ⟨rfl, l', h1, h2, h3, h4⟩
  have H1 := hide (And.intro h1 (And.intro h2 (And.intro h3 h4)))
  clear h1 h2 h3 h4 HP
  go_wp2
  go_end0
  exact ⟨rfl, l', H1.out⟩
set_option maxRecDepth 100000 in
set_option maxHeartbeats 4000000 in
/-- order.Ranks, of up to fourteen of which none is there twice -/
theorem pRanks14_any {w0 : World} {In : World → (Nat → Prop) → Nat → List Nd → Prop} (C : Cd w0 In) {w : World} {S : Nat → Prop} {gd : Nat} {D : List Nd} (hlow : Below w0.heap.size w0 w) (h : In w S gd D) (hK : Okd D)
    (l : List Bs) (A : Option Addr) (c : Nat) (Pb : Nat → Prop) (hs : Vs w Pb A c (texts l)) (hu : l.length ≤ 12 ∨ l.length ≤ 14 ∧ l.Nodup) (hx : ∀ x ∈ l, x.length ≤ 50) :
    Calls Try.prog 34 #[pt gd, .slice A l.length c] w fun y w' => ∃ v, y = .returned v ∧ OwT w' w.heap.size tId v (ranks D l) ∧ Below w.heap.size w w' := by
  have hl : l.length ≤ 14 := by rcases hu with h | h <;> omega
  have HU := hide hu
  clear hu
  obtain ⟨bx, hbx⟩ : ∃ z, z = w.heap.size := ⟨_, rfl⟩
  obtain ⟨w1, hw1⟩ : ∃ z, z = w.alloc (.cells #[pt gd] 26) := ⟨_, rfl⟩
  have hb1 : Below w.heap.size w w1 := by rw [hw1]; exact (Below.refl _ _).alloc (Nat.le_refl _) _
  have hc1 : w1.cell? ⟨bx, 0, none⟩ = some (pt gd) := by rw [hw1, hbx]; exact (Row.fresh w 26 #[pt gd]).cell 0
  have hlt1 : bx < w1.heap.size := by rw [hw1, hbx]; simp
  have hI := hK.inv
  have HCl := hide (clone_ids (vs_move (vs_low hs) fun b hb => hb1.block b hb) (by omega : l.length ≤ 1000000))
  -- the closures' contracts, behind the clone
  have HCo := hide (show ∀ w2 g, Below w1.heap.size w1 w2 → w1.heap.size ≤ g → Cmp w2 g D gd ∧ Dlt w2 g D bx from fun w2 g hb2 hg => by
    have hb02 := hb1.trans (hb2.mono hb1.size)
    have hs1 := hb1.size
    have hs0 := hlow.size
    have hlow' : ∀ W, w2.grownBy W (some g) → Below w0.heap.size w0 W := fun W hW => by
      have h1 := hlow.trans (hb02.mono hs0)
      exact h1.grown hW h1.size fun k e => by injection e with e; omega
    have hin' : ∀ W, w2.grownBy W (some g) → In W S gd D := fun W hW => C.move (C.below h hb02) (fun b hb => by
      have := C.lt h b hb
      have := hb02.size
      exact hW.block b (by omega) fun e => by injection e with e; omega) hW.size
    refine ⟨fun W hW a b ha hb => ?_, fun W hW x hxx => ?_⟩
    · exact (pcompare_any C (hlow' W hW) (hin' W hW) hK a b ha hb).mono fun y w' ⟨q1, q2⟩ => ⟨q1, hide q2⟩
    · refine rk1_any C (hlow' W hW) (hin' W hW) hK ?_ x hxx
      have h1 := (World.cell?_of_block (a := ⟨bx, 0, none⟩) (hb2.block bx hlt1)).trans hc1
      exact (World.cell?_of_block (a := ⟨bx, 0, none⟩) (hW.block bx (Nat.lt_of_lt_of_le hlt1 hb2.size) fun e => by injection e with e; omega)).trans h1)
  have HI := hide hI
  have Hx := hide hx
  have HB1 := hide hb1
  have HC1 := hide hc1
  have Hl := hide hl
  have HW1 := hide hw1
  clear hs hl hx h hK hlow hI hlt1 hb1 hc1
  obtain ⟨n, hn⟩ : ∃ n, n = l.length := ⟨_, rfl⟩
  rw [← hn] at HCl Hl ⊢
  have HN := hide hn
  clear hn
  go_enter Try.func34, Try.ntmps34
  go_wp2_with fail
  rw [← hw1, ← hbx]
  have HBe := hide hbx
  clear hbx
  refine HCl.out.mono ?_
  rintro y w2 ⟨v2, rfl, ho2, hb2⟩
  have HB2 := hide (HB1.out.trans (hb2.mono HB1.out.size))
  by_cases h0 : n = 0
  · have hl0 : l = [] := List.length_eq_zero_iff.1 (by rw [← HN.out, h0])
    obtain ⟨A2, c2, rfl⟩ : ∃ A2 c2, v2 = .slice A2 0 c2 := by
      obtain ⟨A2, c2, e, _⟩ := own_vs ho2
      rw [hl0] at e
      exact ⟨A2, c2, e⟩
    have HF := hide (show ranks D l = [] from by
      rw [List.eq_nil_iff_forall_not_mem]
      intro a ha
      have := ((ranks_mem HI.out).1 ha).1
      rw [hl0] at this; cases this)
    have ho2' : OwT w2 w1.heap.size tId (.slice A2 0 c2) [] := by rw [hl0] at ho2; exact ho2
    have hcp := compact_ids ho2' (Nat.zero_le _)
    have HCp := hide hcp
    have HOb := hide (show ∀ k, (Value.slice A2 0 c2).ownBlock = some k → w.heap.size ≤ k from fun k e => Nat.le_trans HB1.out.size (World.ownsRow.lt ho2' k e).1)
    have hc2 := (World.cell?_of_block (hb2.block bx (World.block_lt_of_cell? _ _ HC1.out))).trans HC1.out
    clear ho2 ho2' hl0 hcp hb2 HCl HCo hw1
    go_wp2_with fail
    refine (delete_none A2 c2 _ w2).mono ?_
    rintro y w3 ⟨rfl, rfl⟩
    go_wp2_with fail
    refine (sortF_none A2 c2 _ w3).mono ?_
    rintro y w4 ⟨rfl, rfl⟩
    go_wp2_with fail
    refine HCp.out.mono ?_
    rintro y w5 ⟨v5, rfl, q1, q2, q3⟩
    have HO5 := hide q1
    have HG5 := hide (HB2.out.grown q2 HB2.out.size HOb.out)
    have HO6 := hide (show OwT w5 w.heap.size tId v5 [] from owt_base q1 HB1.out.size)
    clear q1 q2 q3 HCp hc2
    go_wp2
    go_ret
    exact ⟨v5, rfl, by rw [HF.out]; exact HO6.out, HG5.out⟩
  · obtain ⟨g, cap, rfl⟩ : ∃ g cap, v2 = slV g n cap := by
      rcases ho2.2 with ⟨_, h2⟩ | ⟨g, cap, cur, hv, _⟩
      · exact absurd (HN.out.trans h2) h0
      · exact ⟨g, cap, by rw [hv, HN.out]⟩
    have hglt := World.ownsRow.lt ho2 g rfl
    obtain ⟨hcm, hdl⟩ := HCo.out w2 g hb2 hglt.1
    have hc2 := (World.cell?_of_block (hb2.block bx (World.block_lt_of_cell? _ _ HC1.out))).trans HC1.out
    have HDe := hide (delete_any hdl (owt_base ho2 (Nat.zero_le _)) (by have := Hl.out; omega) Hx.out)
    have HCm := hide hcm
    have HG := hide (show w.heap.size ≤ g from by have := HB1.out.size; have := hglt.1; omega)
    have HBx := hide (show bx ≠ g from by have := World.block_lt_of_cell? _ _ HC1.out; simp only at this; have := hglt.1; omega)
    clear ho2 hcm hdl hglt hb2 HCl HCo hw1 h0
    go_wp2_with fail
    refine HDe.out.mono ?_
    rintro y w3 ⟨m, rfl, ho3, hg3⟩
    have hc3 := (World.cell?_of_block (a := ⟨bx, 0, none⟩) (hg3.block bx (World.block_lt_of_cell? _ _ hc2) fun e => HBx.out (by injection e))).trans hc2
    have hm := own_len ho3
    have HSo := hide (sortF14_any (w := w3) (fun W hW => HCm.out W (grown_two hg3 hW)) ho3 (fun x hx => Hx.out x (List.mem_filter.1 hx).1) (by
      have := List.length_filter_le (has D) l
      rcases HU.out with h | h
      · exact .inl (by omega)
      · exact .inr ⟨by omega, List.Pairwise.filter _ h.2⟩))
    have HB3 := hide (HB2.out.grown hg3 HB2.out.size fun k e => by injection e with e; rw [← e]; exact HG.out)
    have HM := hide hm
    clear ho3 hg3 hm hc2 HDe HCm
    go_wp2_with fail
    refine HSo.out.mono ?_
    rintro y w4 ⟨rfl, l4, ho4, hg4, hp4, ha4⟩
    have hln4 := own_len ho4
    have HB4 := hide (HB3.out.grown hg4 HB3.out.size fun k e => by injection e with e; rw [← e]; exact HG.out)
    have HE := hide (compact_ranks HI.out (s := l4) (l := l) (by rw [hln4]; exact ha4) fun a => by rw [hp4.mem_iff, List.mem_filter])
    have HCp := hide (compact_ids ho4 (by rw [hln4]; have := List.length_filter_le (has D) l; have := Hl.out; have := HN.out; have := HM.out; omega))
    rw [HE.out] at HCp
    clear ho4 hg4 hp4 ha4 hln4 HSo hc3
    go_wp2_with fail
    refine HCp.out.mono ?_
    rintro y w5 ⟨v5, rfl, q1, q2, q3⟩
    have HO5 := hide (owt_up (B := w.heap.size) q1 fun b hb => by rw [q3] at hb; injection hb with hb; have hb : g = b := hb; rw [← hb]; exact HG.out)
    have HB5 := hide (HB4.out.grown q2 HB4.out.size fun k e => by injection e with e; have e : g = k := e; rw [← e]; exact HG.out)
    clear q1 q2 q3 HCp
    go_wp2
    go_ret
    exact ⟨v5, rfl, HO5.out, HB5.out⟩
section
variable {In : World → (Nat → Prop) → Nat → List Nd → Prop} {w0 W : World} {g : Nat} {D : List Nd} {F : Nat → Prop}
theorem gd_ranks14 (C : Cd w0 In) (h : GD In w0 W g D F) (l : List Bs) (A : Option Addr) (c : Nat) (Pb : Nat → Prop) (hs : Vs W Pb A c (texts l)) (hl : l.length ≤ 12 ∨ l.length ≤ 14 ∧ l.Nodup) (hx : ∀ x ∈ l, x.length ≤ 50) :
    Calls Try.prog 34 #[pt g, .slice A l.length c] W fun y w' => ∃ v, y = .returned v ∧ OwT w' W.heap.size tId v (ranks D l) ∧ Below W.heap.size W w' := by
  obtain ⟨h1, h2, S, h3, _⟩ := h
  exact pRanks14_any C h1 h3 h2 l A c Pb hs hl hx
end
end Go.Proofs.Ytplmcpdlommmaaa.Oq
