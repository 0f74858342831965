/-
  order: Ranks, walked.
-/
import Derived.Test.YtplmcpdlommmaaaQCM
import Derived.Test.YtplmcpdlommmaaaCP
namespace Go.Proofs.Ytplmcpdlommmaaa.Oq
open Go Go.RowKit Kt Kg Lw Tr Dq

theorem asc_pair {D : List Nd} {l : List Bs} (h : Asc D l 0 l.length) : ∀ i j, i < j → j < l.length → ¬ rlt D (l.getD j []) (l.getD i []) := fun i j h1 h2 => h i j (Nat.zero_le _) h1 h2
/-- what is sorted by rank, each once -/
theorem compact_ranks {D : List Nd} (hI : Inv D) {s l : List Bs} (h : Asc D s 0 s.length) (hm : ∀ a, a ∈ s ↔ a ∈ l ∧ has D a = true) : Lib.compact s = ranks D l := by
  have hpw := asc_pair h
  have hge : ∀ i, i < s.length → s.toArray[i]! = s.getD i [] := fun i hi => by
    rw [List.getElem!_toArray, List.getD_eq_getElem?_getD, List.getElem!_eq_getElem?_getD]; rfl
  have hlt : ∀ i j, i < j → j < s.length → s.getD i [] = s.getD j [] ∨ rlt D (s.getD i []) (s.getD j []) := fun i j h1 h2 => by
    rcases rlt_tri D (s.getD i []) (s.getD j []) with e | e | e
    · exact .inr e
    · exact .inl e
    · exact absurd e (hpw i j h1 h2)
  refine ranks_ext hI ?_ fun x => ?_
  · unfold Lib.compact Lib.compactUpTo
    rw [List.pairwise_map]
    refine List.Pairwise.imp_of_mem (R := fun i j => i < j) (fun {i j} hi hj hij => ?_) (List.Pairwise.filter _ List.pairwise_lt_range)
    rw [List.mem_filter, List.mem_range] at hi hj
    rw [hge i hi.1, hge j hj.1]
    have hk := hj.2
    unfold Lib.keeps at hk
    rw [decide_eq_true_iff] at hk
    rcases hk with hk | hk
    · omega
    · rw [hge j hj.1, hge (j - 1) (by omega)] at hk
      have h2 : rlt D (s.getD (j - 1) []) (s.getD j []) := (hlt (j - 1) j (by omega) hj.1).elim (fun e => absurd e.symm hk) id
      by_cases e : i = j - 1
      · rw [e]; exact h2
      · rcases hlt i (j - 1) (by omega) (by omega) with e2 | e2
        · rw [e2]; exact h2
        · exact rlt_trans e2 h2
  · rw [← hm x]
    unfold Lib.compact Lib.compactUpTo
    rw [List.mem_map]
    constructor
    · rintro ⟨i, hi, rfl⟩
      rw [List.mem_filter, List.mem_range] at hi
      rw [hge i hi.1, List.getD_eq_getElem?_getD, List.getElem?_eq_getElem hi.1]
      exact List.getElem_mem hi.1
    · intro hx
      obtain ⟨k, hk⟩ := List.mem_iff_getElem?.1 hx
      have key : ∀ k : Nat, s[k]? = some x → ∃ i, i < s.length ∧ s.getD i [] = x ∧ (i = 0 ∨ s.getD i [] ≠ s.getD (i - 1) []) := by
        intro k
        induction k with
        | zero => intro h; exact ⟨0, (List.getElem?_eq_some_iff.1 h).1, by rw [List.getD_eq_getElem?_getD, h]; rfl, .inl rfl⟩
        | succ k ih =>
          intro h
          have hl := (List.getElem?_eq_some_iff.1 h).1
          have hv : s.getD (k + 1) [] = x := by rw [List.getD_eq_getElem?_getD, h]; rfl
          by_cases e : s.getD k [] = x
          · refine ih ?_
            rw [List.getD_eq_getElem?_getD, List.getElem?_eq_getElem (show k < s.length by omega)] at e
            rw [List.getElem?_eq_getElem (show k < s.length by omega)]
            exact congrArg some e
          · exact ⟨k + 1, hl, hv, .inr (by rw [hv]; exact fun e2 => e e2.symm)⟩
      obtain ⟨i, hi, hv, hkp⟩ := key k hk
      refine ⟨i, ?_, by rw [hge i hi]; exact hv⟩
      rw [List.mem_filter, List.mem_range]
      refine ⟨hi, ?_⟩
      unfold Lib.keeps
      rw [decide_eq_true_iff]
      rcases hkp with hkp | hkp
      · exact .inl hkp
      · by_cases h0 : i = 0
        · exact .inl h0
        · right; rw [hge i hi, hge (i - 1) (by omega)]; exact hkp
theorem owt_up {w : World} {B : Nat} {v : Value} {l : List Bs} (h : OwT w 0 tId v l) (hb : ∀ b, v.ownBlock = some b → B ≤ b) : OwT w B tId v l :=
  ⟨h.1, h.2.imp id fun ⟨g, cap, cur, hv, _, h2⟩ => ⟨g, cap, cur, hv, hb g (by rw [hv]; rfl), h2⟩⟩
set_option maxRecDepth 100000 in
set_option maxHeartbeats 1000000 in
theorem index_none (A : Option Addr) (c : Nat) (f : Value) (w : World) : Calls Try.prog 74 #[.slice A 0 c, f] w fun y w' => y = .returned (.int .i64 (-1)) ∧ w' = w := by
  go_enter Try.func74, Try.ntmps74
  go_wp2
  refine wp_loop_rounds 1 ?_
  rw [rounds_succ]
  go_wp2
  go_ret
  exact ⟨rfl, rfl⟩
set_option maxRecDepth 100000 in
set_option maxHeartbeats 1000000 in
theorem delete_none (A : Option Addr) (c : Nat) (f : Value) (w : World) : Calls Try.prog 54 #[.slice A 0 c, f] w fun y w' => y = .returned (.slice A 0 c) ∧ w' = w := by
  go_enter Try.func54, Try.ntmps54
  go_wp2_with fail
  refine (index_none A c f w).mono ?_
  rintro y w1 ⟨rfl, rfl⟩
  go_wp2
  go_ret
  exact ⟨rfl, rfl⟩
set_option maxRecDepth 100000 in
set_option maxHeartbeats 4000000 in
/-- order.Ranks -/
theorem pRanks_any {w0 : World} {In : World → (Nat → Prop) → Nat → List Nd → Prop} (C : Cd w0 In) {w : World} {S : Nat → Prop} {gd : Nat} {D : List Nd} (hlow : Below w0.heap.size w0 w) (h : In w S gd D) (hK : Okd D)
    (l : List Bs) (A : Option Addr) (c : Nat) (Pb : Nat → Prop) (hs : Vs w Pb A c (texts l)) (hl : l.length ≤ 12) (hx : ∀ x ∈ l, x.length ≤ 50) :
    Calls Try.prog 34 #[pt gd, .slice A l.length c] w fun y w' => ∃ v, y = .returned v ∧ OwT w' w.heap.size tId v (ranks D l) ∧ Below w.heap.size w w' := by
  obtain ⟨bx, hbx⟩ : ∃ z, z = w.heap.size := ⟨_, rfl⟩
  obtain ⟨w1, hw1⟩ : ∃ z, z = w.alloc (.cells #[pt gd] 26) := ⟨_, rfl⟩
  have hb1 : Below w.heap.size w w1 := by rw [hw1]; exact (Below.refl _ _).alloc (Nat.le_refl _) _
  have hc1 : w1.cell? ⟨bx, 0, none⟩ = some (pt gd) := by rw [hw1, hbx]; exact (Row.fresh w 26 #[pt gd]).cell 0
  have hlt1 : bx < w1.heap.size := by rw [hw1, hbx]; simp
  have hI := hK.inv
  have HCl := hide (clone_ids (vs_move (vs_low hs) fun b hb => hb1.block b hb) (by omega : l.length ≤ 1000000))
  -- the closures' contracts, behind the clone
  have HCo := hide (show ∀ w2 g, Below w1.heap.size w1 w2 → w1.heap.size ≤ g → Cmp w2 g D gd ∧ Dlt w2 g D bx from fun w2 g hb2 hg => by
    have hb02 := hb1.trans (hb2.mono hb1.size)
    have hs1 := hb1.size
    have hs0 := hlow.size
    have hlow' : ∀ W, w2.grownBy W (some g) → Below w0.heap.size w0 W := fun W hW => by
      have h1 := hlow.trans (hb02.mono hs0)
      exact h1.grown hW h1.size fun k e => by injection e with e; omega
    have hin' : ∀ W, w2.grownBy W (some g) → In W S gd D := fun W hW => C.move (C.below h hb02) (fun b hb => by
      have := C.lt h b hb
      have := hb02.size
      exact hW.block b (by omega) fun e => by injection e with e; omega) hW.size
    refine ⟨fun W hW a b ha hb => ?_, fun W hW x hxx => ?_⟩
    · exact (pcompare_any C (hlow' W hW) (hin' W hW) hK a b ha hb).mono fun y w' ⟨q1, q2⟩ => ⟨q1, hide q2⟩
    · refine rk1_any C (hlow' W hW) (hin' W hW) hK ?_ x hxx
      have h1 := (World.cell?_of_block (a := ⟨bx, 0, none⟩) (hb2.block bx hlt1)).trans hc1
      exact (World.cell?_of_block (a := ⟨bx, 0, none⟩) (hW.block bx (Nat.lt_of_lt_of_le hlt1 hb2.size) fun e => by injection e with e; omega)).trans h1)
  have HI := hide hI
  have Hx := hide hx
  have HB1 := hide hb1
  have HC1 := hide hc1
  have Hl := hide hl
  have HW1 := hide hw1
  clear hs hl hx h hK hlow hI hlt1 hb1 hc1
  obtain ⟨n, hn⟩ : ∃ n, n = l.length := ⟨_, rfl⟩
  rw [← hn] at HCl Hl ⊢
  have HN := hide hn
  clear hn
  go_enter Try.func34, Try.ntmps34
  go_wp2_with fail
  rw [← hw1, ← hbx]
  have HBe := hide hbx
  clear hbx
  refine HCl.out.mono ?_
  rintro y w2 ⟨v2, rfl, ho2, hb2⟩
  have HB2 := hide (HB1.out.trans (hb2.mono HB1.out.size))
  by_cases h0 : n = 0
  · have hl0 : l = [] := List.length_eq_zero_iff.1 (by rw [← HN.out, h0])
    obtain ⟨A2, c2, rfl⟩ : ∃ A2 c2, v2 = .slice A2 0 c2 := by
      obtain ⟨A2, c2, e, _⟩ := own_vs ho2
      rw [hl0] at e
      exact ⟨A2, c2, e⟩
    have HF := hide (show ranks D l = [] from by
      rw [List.eq_nil_iff_forall_not_mem]
      intro a ha
      have := ((ranks_mem HI.out).1 ha).1
      rw [hl0] at this; cases this)
    have ho2' : OwT w2 w1.heap.size tId (.slice A2 0 c2) [] := by rw [hl0] at ho2; exact ho2
    have hcp := compact_ids ho2' (Nat.zero_le _)
    have HCp := hide hcp
    have HOb := hide (show ∀ k, (Value.slice A2 0 c2).ownBlock = some k → w.heap.size ≤ k from fun k e => Nat.le_trans HB1.out.size (World.ownsRow.lt ho2' k e).1)
    have hc2 := (World.cell?_of_block (hb2.block bx (World.block_lt_of_cell? _ _ HC1.out))).trans HC1.out
    clear ho2 ho2' hl0 hcp hb2 HCl HCo hw1
    go_wp2_with fail
    refine (delete_none A2 c2 _ w2).mono ?_
    rintro y w3 ⟨rfl, rfl⟩
    go_wp2_with fail
    refine (sortF_none A2 c2 _ w3).mono ?_
    rintro y w4 ⟨rfl, rfl⟩
    go_wp2_with fail
    refine HCp.out.mono ?_
    rintro y w5 ⟨v5, rfl, q1, q2, q3⟩
    have HO5 := hide q1
    have HG5 := hide (HB2.out.grown q2 HB2.out.size HOb.out)
    have HO6 := hide (show OwT w5 w.heap.size tId v5 [] from owt_base q1 HB1.out.size)
    clear q1 q2 q3 HCp hc2
    go_wp2
    go_ret
    exact ⟨v5, rfl, by rw [HF.out]; exact HO6.out, HG5.out⟩
  · obtain ⟨g, cap, rfl⟩ : ∃ g cap, v2 = slV g n cap := by
      rcases ho2.2 with ⟨_, h2⟩ | ⟨g, cap, cur, hv, _⟩
      · exact absurd (HN.out.trans h2) h0
      · exact ⟨g, cap, by rw [hv, HN.out]⟩
    have hglt := World.ownsRow.lt ho2 g rfl
    obtain ⟨hcm, hdl⟩ := HCo.out w2 g hb2 hglt.1
    have hc2 := (World.cell?_of_block (hb2.block bx (World.block_lt_of_cell? _ _ HC1.out))).trans HC1.out
    have HDe := hide (delete_any hdl (owt_base ho2 (Nat.zero_le _)) (by have := Hl.out; omega) Hx.out)
    have HCm := hide hcm
    have HG := hide (show w.heap.size ≤ g from by have := HB1.out.size; have := hglt.1; omega)
    have HBx := hide (show bx ≠ g from by have := World.block_lt_of_cell? _ _ HC1.out; simp only at this; have := hglt.1; omega)
    clear ho2 hcm hdl hglt hb2 HCl HCo hw1 h0
    go_wp2_with fail
    refine HDe.out.mono ?_
    rintro y w3 ⟨m, rfl, ho3, hg3⟩
    have hc3 := (World.cell?_of_block (a := ⟨bx, 0, none⟩) (hg3.block bx (World.block_lt_of_cell? _ _ hc2) fun e => HBx.out (by injection e))).trans hc2
    have hm := own_len ho3
    have HSo := hide (sortF_any (w := w3) (fun W hW => HCm.out W (grown_two hg3 hW)) ho3 (fun x hx => Hx.out x (List.mem_filter.1 hx).1) (by have := List.length_filter_le (has D) l; have := Hl.out; have := HN.out; omega))
    have HB3 := hide (HB2.out.grown hg3 HB2.out.size fun k e => by injection e with e; rw [← e]; exact HG.out)
    have HM := hide hm
    clear ho3 hg3 hm hc2 HDe HCm
    go_wp2_with fail
    refine HSo.out.mono ?_
    rintro y w4 ⟨rfl, l4, ho4, hg4, hp4, ha4⟩
    have hln4 := own_len ho4
    have HB4 := hide (HB3.out.grown hg4 HB3.out.size fun k e => by injection e with e; rw [← e]; exact HG.out)
    have HE := hide (compact_ranks HI.out (s := l4) (l := l) (by rw [hln4]; exact ha4) fun a => by rw [hp4.mem_iff, List.mem_filter])
    have HCp := hide (compact_ids ho4 (by rw [hln4]; have := List.length_filter_le (has D) l; have := Hl.out; have := HN.out; have := HM.out; omega))
    rw [HE.out] at HCp
    clear ho4 hg4 hp4 ha4 hln4 HSo hc3
    go_wp2_with fail
    refine HCp.out.mono ?_
    rintro y w5 ⟨v5, rfl, q1, q2, q3⟩
    have HO5 := hide (owt_up (B := w.heap.size) q1 fun b hb => by rw [q3] at hb; injection hb with hb; have hb : g = b := hb; rw [← hb]; exact HG.out)
    have HB5 := hide (HB4.out.grown q2 HB4.out.size fun k e => by injection e with e; have e : g = k := e; rw [← e]; exact HG.out)
    clear q1 q2 q3 HCp
    go_wp2
    go_ret
    exact ⟨v5, rfl, HO5.out, HB5.out⟩
end Go.Proofs.Ytplmcpdlommmaaa.Oq
namespace Go.Proofs.Ytplmcpdlommmaaa.Oq
open Go Go.RowKit Kt Kg Lw Tr Dq

def exD1 : List Nd := (Dq.add [] [98] []).1
def exD : List Nd := (Dq.add exD1 [97] [[98]]).1
theorem ex_ok : log exD = [[98], [97]] ∧ ranks exD [[97], [98]] = [[98], [97]] ∧ bel exD [[97]] = [[97], [98]] ∧ common exD [[97]] [[98]] = some [98] ∧ exD1.length ≤ 2 ∧ exD.length ≤ 2 := by decide +kernel
theorem ex_sm : Sm exD := ⟨by have := ex_ok.2.2.2.2.2; omega, by
  have h : (exD.all fun n => decide (n.id.length ≤ 40 ∧ n.ps.length ≤ 6 ∧ ∀ p ∈ n.ps, p.length ≤ 40)) = true := by decide +kernel
  exact fun n hn => of_decide_eq_true (List.all_eq_true.1 h n hn)⟩
section
variable {In : World → (Nat → Prop) → Nat → List Nd → Prop} {w0 W : World} {g : Nat} {D : List Nd} {F : Nat → Prop}
theorem gd_log (C : Cd w0 In) (h : GD In w0 W g D F) (hs : Sm D) : Calls Try.prog 33 #[pt g] W fun y w' => ∃ A c, y = .returned (.slice A (log D).length c) ∧ Vs w' (fun b => W.heap.size ≤ b ∧ b < w'.heap.size) A c (texts (log D)) ∧ Below W.heap.size W w' := by
  obtain ⟨h1, h2, S, h3, _⟩ := h
  exact pLog_any C h1 h3 h2 hs
theorem gd_below (C : Cd w0 In) (h : GD In w0 W g D F) (l : List Bs) (A : Option Addr) (c : Nat) (Pb : Nat → Prop) (hs : Vs W Pb A c (texts l)) (hl : l.length ≤ 40) (hx : ∀ x ∈ l, x.length ≤ 50) :
    Calls Try.prog 39 #[pt g, .slice A l.length c] W fun y w' => ∃ v, y = .returned v ∧ OwT w' W.heap.size tId v (bel D l) ∧ Below W.heap.size W w' := by
  obtain ⟨h1, h2, S, h3, _⟩ := h
  exact pBelow_any C h1 h3 h2 l A c Pb hs hl hx
theorem gd_common (C : Cd w0 In) (h : GD In w0 W g D F) (a : List Bs) (A : Option Addr) (c : Nat) (Pa : Nat → Prop) (hs : Vs W Pa A c (texts a)) (hl : a.length ≤ 40) (hx : ∀ x ∈ a, x.length ≤ 50)
    (b : List Bs) (A2 : Option Addr) (c2 : Nat) (Pb : Nat → Prop) (hs2 : Vs W Pb A2 c2 (texts b)) (hl2 : b.length ≤ 40) (hx2 : ∀ x ∈ b, x.length ≤ 50) :
    Calls Try.prog 38 #[pt g, .slice A a.length c, .slice A2 b.length c2] W fun y w' => y = .returned (.tuple #[.string ⟨((common D a b).getD []).toArray⟩, .bool (common D a b).isSome]) ∧ Below W.heap.size W w' := by
  obtain ⟨h1, h2, S, h3, _⟩ := h
  exact pCommon_any C h1 h3 h2 a A c Pa hs hl hx b A2 c2 Pb hs2 hl2 hx2
theorem gd_ranks (C : Cd w0 In) (h : GD In w0 W g D F) (l : List Bs) (A : Option Addr) (c : Nat) (Pb : Nat → Prop) (hs : Vs W Pb A c (texts l)) (hl : l.length ≤ 12) (hx : ∀ x ∈ l, x.length ≤ 50) :
    Calls Try.prog 34 #[pt g, .slice A l.length c] W fun y w' => ∃ v, y = .returned v ∧ OwT w' W.heap.size tId v (ranks D l) ∧ Below W.heap.size W w' := by
  obtain ⟨h1, h2, S, h3, _⟩ := h
  exact pRanks_any C h1 h3 h2 l A c Pb hs hl hx
end
set_option maxRecDepth 100000 in
set_option maxHeartbeats 4000000 in
theorem owake_any {In : World → (Nat → Prop) → Nat → List Nd → Prop} (w : World) (C : Cd w In) : Calls Try.prog 31 #[] w fun y w' => y = .returned (.bool true) ∧ Below w.heap.size w w' := by
  have HC := hide C
  have HNew := hide (GD.new C (Below.refl w.heap.size w))
  clear C
  go_enter Try.func31, Try.ntmps31
  go_wp2_with fail
  refine HNew.out.mono ?_
  rintro y w1 ⟨g, rfl, hg1, hb1⟩
  have HAdd := hide (show Calls Try.prog 12 #[pt g, .string ⟨#[98]⟩, .slice none 0 0] w1 _ from
    (hg1.imp (F' := fun _ => False) fun _ h => h.elim).add HC.out [98] [] none 0 (fun _ => False) (by decide) ⟨Nat.zero_le _, fun h => by simp [texts] at h⟩ (fun k hk => hk.elim) (by decide) (by decide))
  clear hg1 hb1 HNew
  go_wp2_with fail
  refine HAdd.out.mono ?_
  rintro y w2 ⟨v2, rfl, _, hg2, _, _, _⟩
  have HG2 := hide (show GD In w w2 g exD1 (fun _ => False) from hg2.imp fun _ h => h.elim)
  clear hg2 HAdd
  obtain ⟨wa, hwa⟩ : ∃ z, z = w2.alloc (.cells #[.string ⟨#[98]⟩] tId) := ⟨_, rfl⟩
  have hba : Below w2.heap.size w2 wa := by rw [hwa]; exact (Below.refl _ w2).alloc (Nat.le_refl _) _
  have hsa : Vs wa (fun b => b = w2.heap.size) (some ⟨w2.heap.size, 0, none⟩) 1 (texts [[98]]) := by rw [hwa]; exact lit_ids w2 [[98]] _ rfl
  have HAdd := hide (show Calls Try.prog 12 #[pt g, .string ⟨#[97]⟩, .slice (some ⟨w2.heap.size, 0, none⟩) 1 1] wa _ from
    (HG2.out.below HC.out hba).add HC.out [97] [[98]] (some ⟨w2.heap.size, 0, none⟩) 1 _ (by have := ex_ok.2.2.2.2.1; omega) hsa (fun k hk => .inl (.inr (by subst hk; exact ⟨Nat.le_refl _, by rw [hwa, World.size_alloc]; exact Nat.lt_succ_self _⟩))) (by decide) (by decide))
  have HWa := hide hwa
  clear hba hsa hwa
  go_wp2_with fail
  rw [← HWa.out]
  refine HAdd.out.mono ?_
  rintro y w3 ⟨v3, rfl, _, hg3, _, _, _⟩
  have HG3 := hide (show GD In w w3 g exD (fun _ => False) from hg3.imp fun _ h => h.elim)
  clear hg3 HAdd HWa HG2
  obtain ⟨wb, hwb⟩ : ∃ z, z = w3.alloc (.cells #[.string ⟨#[97]⟩] tId) := ⟨_, rfl⟩
  obtain ⟨wc, hwc⟩ : ∃ z, z = wb.alloc (.cells #[.string ⟨#[98]⟩] tId) := ⟨_, rfl⟩
  have hbb : Below w3.heap.size w3 wb := by rw [hwb]; exact (Below.refl _ w3).alloc (Nat.le_refl _) _
  have hbc : Below wb.heap.size wb wc := by rw [hwc]; exact (Below.refl _ wb).alloc (Nat.le_refl _) _
  have hszb : wb.heap.size = w3.heap.size + 1 := by rw [hwb]; simp
  have hsb : Vs wb (fun b => b = w3.heap.size) (some ⟨w3.heap.size, 0, none⟩) 1 (texts [[97]]) := by rw [hwb]; exact lit_ids w3 [[97]] _ rfl
  have hsc : Vs wc (fun b => b = wb.heap.size) (some ⟨wb.heap.size, 0, none⟩) 1 (texts [[98]]) := by rw [hwc]; exact lit_ids wb [[98]] _ rfl
  have HGc := hide (HG3.out.stay HC.out (hbb.trans (hbc.mono hbb.size)))
  have hco := gd_common HC.out HGc.out [[97]] _ 1 _ (vs_move hsb fun b hb => hbc.block b (by rw [hb]; omega)) (by decide) (by decide) [[98]] _ 1 _ hsc (by decide) (by decide)
  rw [ex_ok.2.2.2.1, hszb] at hco
  have HCo := hide (show Calls Try.prog 38 #[pt g, .slice (some ⟨w3.heap.size, 0, none⟩) 1 1, .slice (some ⟨w3.heap.size + 1, 0, none⟩) 1 1] wc fun y w' => y = .returned (.tuple #[.string ⟨#[98]⟩, .bool true]) ∧ Below wc.heap.size wc w' from hco)
  have HWc := hide (show w3.alloc (.cells #[.string ⟨#[97]⟩] tId) = wb ∧ wb.alloc (.cells #[.string ⟨#[98]⟩] tId) = wc from ⟨hwb.symm, hwc.symm⟩)
  clear hwb hwc hbb hbc hszb hsb hsc hco HG3
  go_wp2_with fail
  rw [HWc.out.1, HWc.out.2]
  refine HCo.out.mono ?_
  rintro y w4 ⟨rfl, hb4⟩
  have HG4 := hide (HGc.out.stay HC.out hb4)
  have hlo := gd_log HC.out HG4.out ex_sm
  rw [ex_ok.1] at hlo
  have HLo := hide hlo
  clear hb4 HCo HWc HGc hlo
  go_wp2_with fail
  refine HLo.out.mono ?_
  rintro y w5 ⟨A5, c5, rfl, hv5, hb5⟩
  have HG5 := hide (HG4.out.stay HC.out hb5)
  have hv5 := vs_low hv5
  clear hb5 HLo HG4
  obtain ⟨wd, hwd⟩ : ∃ z, z = w5.alloc (.cells #[.string ⟨#[98]⟩, .string ⟨#[97]⟩] tId) := ⟨_, rfl⟩
  have hbwd : Below w5.heap.size w5 wd := by rw [hwd]; exact (Below.refl _ w5).alloc (Nat.le_refl _) _
  have hswd : Vs wd (fun b => b = w5.heap.size) (some ⟨w5.heap.size, 0, none⟩) 2 (texts [[98], [97]]) := by rw [hwd]; exact lit_ids w5 [[98], [97]] _ rfl
  have HIwd := hide (ids_any [[98], [97]] [[98], [97]] A5 (some ⟨w5.heap.size, 0, none⟩) c5 2 _ _ wd (vs_move hv5 fun b hb => hbwd.block b hb) hswd (by decide))
  rw [decide_eq_true rfl] at HIwd
  simp only [List.length_cons, List.length_nil, Nat.zero_add, Nat.reduceAdd] at HIwd
  have HGwd := hide (HG5.out.stay HC.out hbwd)
  have HWwd := hide hwd
  clear hbwd hswd hwd
  go_wp2_with fail
  rw [← HWwd.out]
  refine HIwd.out.mono ?_
  rintro y w6 ⟨rfl, hbw6⟩
  have HGw6 := hide (HGwd.out.stay HC.out hbw6)
  clear hbw6 HIwd HWwd HGwd
  clear hv5 HG5
  obtain ⟨we, hwe⟩ : ∃ z, z = w6.alloc (.cells #[.string ⟨#[97]⟩, .string ⟨#[98]⟩] tId) := ⟨_, rfl⟩
  have hbwe : Below w6.heap.size w6 we := by rw [hwe]; exact (Below.refl _ w6).alloc (Nat.le_refl _) _
  have hswe : Vs we (fun b => b = w6.heap.size) (some ⟨w6.heap.size, 0, none⟩) 2 (texts [[97], [98]]) := by rw [hwe]; exact lit_ids w6 [[97], [98]] _ rfl
  have hra := gd_ranks HC.out (HGw6.out.stay HC.out hbwe) [[97], [98]] _ 2 _ hswe (by decide) (by decide)
  rw [ex_ok.2.1] at hra
  have HGwe := hide (HGw6.out.stay HC.out hbwe)
  have HRa := hide (show Calls Try.prog 34 #[pt g, .slice (some ⟨w6.heap.size, 0, none⟩) 2 2] we _ from hra)
  have HWwe := hide hwe
  clear hbwe hswe hwe hra
  go_wp2_with fail
  rw [← HWwe.out]
  refine HRa.out.mono ?_
  rintro y w7 ⟨v7, rfl, ho7, hb7⟩
  have HG7 := hide (HGwe.out.stay HC.out hb7)
  obtain ⟨A7, c7, rfl, hv7, _⟩ := own_vs ho7
  clear hb7 ho7 HRa HWwe HGwe HGw6
  obtain ⟨wf, hwf⟩ : ∃ z, z = w7.alloc (.cells #[.string ⟨#[98]⟩, .string ⟨#[97]⟩] tId) := ⟨_, rfl⟩
  have hbwf : Below w7.heap.size w7 wf := by rw [hwf]; exact (Below.refl _ w7).alloc (Nat.le_refl _) _
  have hswf : Vs wf (fun b => b = w7.heap.size) (some ⟨w7.heap.size, 0, none⟩) 2 (texts [[98], [97]]) := by rw [hwf]; exact lit_ids w7 [[98], [97]] _ rfl
  have HIwf := hide (ids_any [[98], [97]] [[98], [97]] A7 (some ⟨w7.heap.size, 0, none⟩) c7 2 _ _ wf (vs_move hv7 fun b hb => hbwf.block b hb) hswf (by decide))
  rw [decide_eq_true rfl] at HIwf
  simp only [List.length_cons, List.length_nil, Nat.zero_add, Nat.reduceAdd] at HIwf
  have HGwf := hide (HG7.out.stay HC.out hbwf)
  have HWwf := hide hwf
  clear hbwf hswf hwf
  go_wp2_with fail
  rw [← HWwf.out]
  refine HIwf.out.mono ?_
  rintro y w8 ⟨rfl, hbw8⟩
  have HGw8 := hide (HGwf.out.stay HC.out hbw8)
  clear hbw8 HIwf HWwf HGwf
  clear hv7 HG7
  obtain ⟨wg, hwg⟩ : ∃ z, z = w8.alloc (.cells #[.string ⟨#[97]⟩] tId) := ⟨_, rfl⟩
  have hbwg : Below w8.heap.size w8 wg := by rw [hwg]; exact (Below.refl _ w8).alloc (Nat.le_refl _) _
  have hswg : Vs wg (fun b => b = w8.heap.size) (some ⟨w8.heap.size, 0, none⟩) 1 (texts [[97]]) := by rw [hwg]; exact lit_ids w8 [[97]] _ rfl
  have hbe := gd_below HC.out (HGw8.out.stay HC.out hbwg) [[97]] _ 1 _ hswg (by decide) (by decide)
  rw [ex_ok.2.2.1] at hbe
  have HGwg := hide (HGw8.out.stay HC.out hbwg)
  have HBe := hide (show Calls Try.prog 39 #[pt g, .slice (some ⟨w8.heap.size, 0, none⟩) 1 1] wg _ from hbe)
  have HWwg := hide hwg
  clear hbwg hswg hwg hbe
  go_wp2_with fail
  rw [← HWwg.out]
  refine HBe.out.mono ?_
  rintro y w9 ⟨v9, rfl, ho9, hb9⟩
  have HG9 := hide (HGwg.out.stay HC.out hb9)
  obtain ⟨A9, c9, rfl, hv9, _⟩ := own_vs ho9
  clear hb9 ho9 HBe HWwg HGwg HGw8
  obtain ⟨wh, hwh⟩ : ∃ z, z = w9.alloc (.cells #[.string ⟨#[97]⟩, .string ⟨#[98]⟩] tId) := ⟨_, rfl⟩
  have hbwh : Below w9.heap.size w9 wh := by rw [hwh]; exact (Below.refl _ w9).alloc (Nat.le_refl _) _
  have hswh : Vs wh (fun b => b = w9.heap.size) (some ⟨w9.heap.size, 0, none⟩) 2 (texts [[97], [98]]) := by rw [hwh]; exact lit_ids w9 [[97], [98]] _ rfl
  have HIwh := hide (ids_any [[97], [98]] [[97], [98]] A9 (some ⟨w9.heap.size, 0, none⟩) c9 2 _ _ wh (vs_move hv9 fun b hb => hbwh.block b hb) hswh (by decide))
  rw [decide_eq_true rfl] at HIwh
  simp only [List.length_cons, List.length_nil, Nat.zero_add, Nat.reduceAdd] at HIwh
  have HGwh := hide (HG9.out.stay HC.out hbwh)
  have HWwh := hide hwh
  clear hbwh hswh hwh
  go_wp2_with fail
  rw [← HWwh.out]
  refine HIwh.out.mono ?_
  rintro y w10 ⟨rfl, hbw10⟩
  have HGw10 := hide (HGwh.out.stay HC.out hbw10)
  clear hbw10 HIwh HWwh HGwh
  clear hv9 HG9
  go_wp2
  go_ret
  exact ⟨rfl, HGw10.out.low⟩
end Go.Proofs.Ytplmcpdlommmaaa.Oq
