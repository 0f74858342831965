/-
  The reference's reader: Num.
-/
import Derived.Test.YtcmjdepjckhpdaaDoorQWI
import Derived.Test.YtcmjdepjckhpdaaDoorQZG
import Derived.BigQuiet
import Derived.Test.YtcmjdepjckhpdaaDoorQSE

namespace Go.Proofs.YtcmjdepjckhpdaaDoor.Wr
open Go Go.RowKit Kt

set_option maxHeartbeats 1000000 in
set_option maxRecDepth 100000 in
theorem rread_num {w : World} {B g : Nat} {bs : List UInt8} {at_ e : Nat} (h : RR w B g bs at_ e) :
    Calls Tryd.prog 34 #[.pointer (some ⟨g, 0, none⟩)] w fun y w' => ∃ n at' e', y = .returned (.int .u64 (n : Nat)) ∧ RR w' B g bs at' e' ∧ stepNum (bs.drop at_) e = (n, bs.drop at', e') ∧ Only (· = g) w w' := by
  have Hrr := hide h
  obtain ⟨A, c, hr, hs, hB, h1, h2⟩ := h
  have c2 : w.cell? ⟨g, 2, none⟩ = some (.int .i64 (e : Int)) := hr.cell 2
  have Hr := hide hr
  have Hs := hide hs
  clear hr hs
  by_cases he : e = 0
  · subst he
    obtain ⟨n, k, e, hnum⟩ : ∃ n k e, numOf (bs.drop at_) = (n, k, e) := ⟨_, _, _, rfl⟩
    have hst : stepNum (bs.drop at_) 0 = (n, bs.drop (at_ + k), e) := by unfold stepNum; rw [if_pos rfl, hnum, List.drop_drop]
    have hkl : k ≤ bs.length - at_ := by have := numOf_le (bs.drop at_); rw [hnum, List.length_drop] at this; exact this
    have Hst := hide hst
    have Hnx := hide (rnext_any Hrr.out)
    rw [hnum] at Hnx
    by_cases he : e = 0
    · subst he
      go_enter Tryd.func34, Tryd.ntmps34
      go_wp2_with fail
      refine Hnx.out.mono ?_
      rintro y w1 ⟨rfl, hb1⟩
      have Hr1 := hide (Hr.out.below hb1 Hr.out.lt)
      have Hs1 := hide (Hs.out.move (w' := w1) fun b _ hlt => hb1.block b hlt)
      have Ho1 := hide (Only.of_below (· = g) hb1)
      have d1 : w1.cell? ⟨g, 1, none⟩ = some (.int .i64 (at_ : Int)) := Hr1.out.cell 1
      have g1 := Hr1.out.free 1
      have hwk : IntKind.i64.wrap ((at_ : Int) + (k : Int)) = ((at_ + k : Nat) : Int) := by rw [IntKind.wrap_i64]; omega
      clear hb1
      simp only [numV]
      go_wp2
      go_ret
      refine ⟨n, at_ + k, 0, rfl, ⟨A, c, ?_, Hs1.out.only ((Only.refl (· = g) w1).put (g := g) (i := 1) rfl _) (fun b hb he => by have := hb; omega), hB, by omega, h2⟩, Hst.out, Ho1.out.put (g := g) (i := 1) rfl _⟩
      exact Hr1.out.put 1 (.int .i64 ((at_ + k : Nat) : Int))
    · obtain ⟨rfl, rfl, _⟩ := numOf_fail _ n k e hnum he
      have hb : ((e : Int) != 0) = true := by rw [bne_iff_ne]; omega
      go_enter Tryd.func34, Tryd.ntmps34
      go_wp2_with fail
      refine Hnx.out.mono ?_
      rintro y w1 ⟨rfl, hb1⟩
      have Hr1 := hide (Hr.out.below hb1 Hr.out.lt)
      have Hs1 := hide (Hs.out.move (w' := w1) fun b _ hlt => hb1.block b hlt)
      have Ho1 := hide (Only.of_below (· = g) hb1)
      have d2 : w1.cell? ⟨g, 2, none⟩ = some (.int .i64 ((0 : Nat) : Int)) := Hr1.out.cell 2
      have g2 := Hr1.out.free 2
      clear hb1
      simp only [numV]
      go_wp2
      go_ret
      refine ⟨0, at_, e, rfl, ⟨A, c, ?_, Hs1.out.only ((Only.refl (· = g) w1).put (g := g) (i := 2) rfl _) (fun b hb he => by have := hb; omega), hB, h1, h2⟩, Hst.out, Ho1.out.put (g := g) (i := 2) rfl _⟩
      exact Hr1.out.put 2 (.int .i64 (e : Int))
  · have hb : ((e : Int) != 0) = true := by rw [bne_iff_ne]; omega
    have Hst := hide (show stepNum (bs.drop at_) e = (0, bs.drop at_, e) by unfold stepNum; rw [if_neg he])
    go_enter Tryd.func34, Tryd.ntmps34
    go_wp2
    go_ret
    exact ⟨0, at_, e, rfl, Hrr.out, Hst.out, Only.refl _ _⟩
end Go.Proofs.YtcmjdepjckhpdaaDoor.Wr
namespace Go.Proofs.YtcmjdepjckhpdaaDoor.So
open Go Go.RowKit Kt Kg Wr Lw Sha Dk Dg Kf

section
variable {bs : Bs} {n t e : Nat}
theorem one_of (hst : stepNum bs 0 = (n, bs.drop t, e)) (ht : t ≤ bs.length) : (numOf bs).1 = n ∧ (numOf bs).2.1 = t ∧ (numOf bs).2.2 = e := by
  unfold stepNum at hst
  rw [if_pos rfl] at hst
  injection hst with h1 h2
  injection h2 with h2 h3
  have h4 := congrArg List.length h2
  rw [List.length_drop, List.length_drop] at h4
  have := numOf_le bs
  exact ⟨h1, by omega, h3⟩
theorem one_torn1 (h : (numOf bs).1 = n ∧ (numOf bs).2.1 = t ∧ (numOf bs).2.2 = e) (h1 : e = 2) : rdOne bs = .torn := by
  unfold rdOne
  rw [h.2.2, if_pos h1]
theorem one_bad (h : (numOf bs).1 = n ∧ (numOf bs).2.1 = t ∧ (numOf bs).2.2 = e) (h1 : e ≠ 2) (h2 : e ≠ 0) : rdOne bs = .bad e := by
  unfold rdOne
  rw [h.2.2, if_neg h1, if_pos h2]
theorem one_long (h : (numOf bs).1 = n ∧ (numOf bs).2.1 = t ∧ (numOf bs).2.2 = e) (h2 : e = 0) (h3 : 131072 < n) : rdOne bs = .bad 4 := by
  unfold rdOne
  rw [h.2.2, h.1, if_neg (by omega), if_neg (by omega), if_pos h3]
theorem one_torn2 (h : (numOf bs).1 = n ∧ (numOf bs).2.1 = t ∧ (numOf bs).2.2 = e) (h2 : e = 0) (h3 : ¬ 131072 < n) (h4 : bs.length - t < n + 4) : rdOne bs = .torn := by
  unfold rdOne
  rw [h.2.2, h.1, h.2.1, if_neg (by omega), if_neg (by omega), if_neg h3, if_pos h4]
theorem one_sum (h : (numOf bs).1 = n ∧ (numOf bs).2.1 = t ∧ (numOf bs).2.2 = e) (h2 : e = 0) (h3 : ¬ 131072 < n) (h4 : ¬ bs.length - t < n + 4) (h5 : ¬ (sha ((bs.drop t).take n)).take 4 = (bs.drop (t + n)).take 4) : rdOne bs = .bad 12 := by
  unfold rdOne
  rw [h.2.2, h.1, h.2.1, if_neg (by omega), if_neg (by omega), if_neg h3, if_neg h4, if_neg h5]
theorem one_got (h : (numOf bs).1 = n ∧ (numOf bs).2.1 = t ∧ (numOf bs).2.2 = e) (h2 : e = 0) (h3 : ¬ 131072 < n) (h4 : ¬ bs.length - t < n + 4) (h5 : (sha ((bs.drop t).take n)).take 4 = (bs.drop (t + n)).take 4) : rdOne bs = .got ((bs.drop t).take n) (t + n + 4) := by
  unfold rdOne
  rw [h.2.2, h.1, h.2.1, if_neg (by omega), if_neg (by omega), if_neg h3, if_neg h4, if_pos h5]
end
/-- a round of Open, behind its number -/
structure RO (W w : World) (S : Nat → Prop) (gd gs g : Nat) (L : List Bs) (bs : Bs) (t e : Nat) : Prop where
  low : Below W.heap.size W w
  st : RsIn w S gs gd L
  up : ∀ k, S k → W.heap.size ≤ k
  rd : RR w W.heap.size g bs t e
  ne : ¬ S g
section
variable {W w w' : World} {S : Nat → Prop} {gd gs g t e : Nat} {L : List Bs} {bs : Bs}
theorem RO.keep (h : RO W w S gd gs g L bs t e) (hb : Below w.heap.size w w') : RO W w' S gd gs g L bs t e :=
  ⟨h.low.trans (hb.mono h.low.size), h.st.below hb, h.up, h.rd.below hb, h.ne⟩
theorem RO.drewN (h : RO W w S gd gs g L bs t e) (m : Nat) : RO W (w.drewN m) S gd gs g L bs t e := h.keep (below_drewN (Below.refl _ w) m)
theorem RO.cells (h : RO W w S gd gs g L bs t e) : w.cell? ⟨g, 1, none⟩ = some (.int .i64 (t : Int)) ∧ w.cell? ⟨g, 2, none⟩ = some (.int .i64 (e : Int)) := by
  obtain ⟨A, c, hr, _⟩ := h.rd
  exact ⟨hr.cell 1, hr.cell 2⟩
theorem RO.made {w2 : World} {A : Option Addr} {c : Nat} (hb : Below W.heap.size W w) (hst : RsIn w S gs gd L) (hup : ∀ k, S k → W.heap.size ≤ k) (hr2 : RR w2 W.heap.size w.heap.size bs t e) (ho2 : Only (· = w.heap.size) (w.alloc (.cells #[.slice A bs.length c, .int .i64 0, .int .i64 0] 74)) w2) :
    RO W w2 S gd gs w.heap.size L bs t e := by
  have hb1 := hb.alloc hb.size (.cells #[.slice A bs.length c, .int .i64 0, .int .i64 0] 74)
  have hsz := hb.size
  refine ⟨ho2.below hb1 hb1.size fun k hk e => by omega, hst.move (fun b hS => ?_) ?_, hup, hr2, fun h => Nat.lt_irrefl _ (hst.lt _ h)⟩
  · have hlt := hst.lt b hS
    rw [ho2.block b (by rw [World.size_alloc]; omega) (by omega)]
    exact Below.heap_alloc w _ b hlt
  · have := ho2.size
    rw [World.size_alloc] at this
    omega
end
/-- what Open comes to -/
def OpenR (W : World) (Sd : Nat → Prop) (gd : Nat) (r : Rt) (y : Ending) (w' : World) : Prop :=
  ((op [] r.k 0).1 ≠ 0 ∧ y = .returned (.tuple #[.pointer none, .int .i64 ((op [] r.k 0).1 : Int)]) ∧ Below W.heap.size W w') ∨
  ((op [] r.k 0).1 = 0 ∧ ∃ gs S Sd', y = .returned (.tuple #[.pointer (some ⟨gs, 0, none⟩), .int .i64 0]) ∧ RsIn w' S gs gd (op [] r.k 0).2.1 ∧ (∀ k, S k → W.heap.size ≤ k) ∧
    RtIn w' Sd' gd ⟨r.k.take (op [] r.k 0).2.2, r.room, r.has, r.fuse, r.dead⟩ ∧ Oth Sd W w' ∧ (∀ k, Sd' k → Sd k ∨ W.heap.size ≤ k) ∧ ∀ k, S k → ¬ Sd' k)
theorem openR_bad {W w' : World} {Sd : Nat → Prop} {gd e : Nat} {r : Rt} {y : Ending} (h : op [] r.k 0 = (e, [], 0)) (he : e ≠ 0) (hy : y = .returned (.tuple #[.pointer none, .int .i64 (e : Int)])) (hb : Below W.heap.size W w') : OpenR W Sd gd r y w' := by
  refine .inl ?_
  rw [h]
  exact ⟨he, hy, hb⟩
theorem openR_cut {W w w' : World} {Sd Sd' S : Nat → Prop} {gd gs a : Nat} {r : Rt} {y : Ending} {L : List Bs} (h : op [] r.k 0 = (0, L, a)) (hy : y = .returned (.tuple #[.pointer (some ⟨gs, 0, none⟩), .int .i64 0])) (hd : RtIn W Sd gd r) (hb : Below W.heap.size W w) (hst : RsIn w S gs gd L) (hup : ∀ k, S k → W.heap.size ≤ k)
    (hr : RtIn w' Sd' gd ⟨r.k.take a, r.room, r.has, r.fuse, r.dead⟩) (ho : Oth Sd w w') (hs : ∀ k, Sd' k → Sd k ∨ w.heap.size ≤ k) : OpenR W Sd gd r y w' := by
  refine .inr ?_
  rw [h]
  have hap : ∀ k, S k → ¬ Sd k := fun k h1 h2 => by have := hup k h1; have := hd.lt k h2; omega
  refine ⟨rfl, gs, S, Sd', hy, hst.oth ho hap, hup, hr, (Oth.of_below Sd hb).trans ho fun _ _ x => x, fun k hk => (hs k hk).imp (fun x => x) fun x => Nat.le_trans hb.size x, fun k h1 h2 => (hs k h2).elim (hap k h1) fun x => by have := hst.lt k h1; omega⟩
theorem openR_all {W w : World} {Sd S : Nat → Prop} {gd gs a : Nat} {r : Rt} {y : Ending} {L : List Bs} (h : op [] r.k 0 = (0, L, a)) (ha : a = r.k.length) (hy : y = .returned (.tuple #[.pointer (some ⟨gs, 0, none⟩), .int .i64 0])) (hd : RtIn W Sd gd r) (hb : Below W.heap.size W w) (hst : RsIn w S gs gd L) (hup : ∀ k, S k → W.heap.size ≤ k) : OpenR W Sd gd r y w := by
  have e : (⟨r.k.take a, r.room, r.has, r.fuse, r.dead⟩ : Rt) = r := by rw [ha, List.take_length]
  exact openR_cut h hy hd hb hst hup (by rw [e]; exact hd.below hb) (Oth.refl _ _) fun k hk => .inl hk
set_option maxRecDepth 100000 in
set_option maxHeartbeats 8000000 in
theorem ropen_any {w : World} {Sd : Nat → Prop} {gd : Nat} {r : Rt} (hd : RtIn w Sd gd r) (hdead : r.dead = false) (hl : r.k.length ≤ 4000) (hT : TabR w) :
    Calls Tryd.prog 13 #[.pointer (some ⟨gd, 0, none⟩)] w fun y w' => OpenR w Sd gd r y w' := by
  have Hd := hide hd
  obtain ⟨v, hr, ho, hg, hb⟩ := hd
  obtain ⟨A0, c0, rfl, hs0⟩ := ho.sl
  rw [hdead] at hr
  have Hs0 := hide hs0.bound
  have HT := hide hT
  have HL := hide hl
  obtain ⟨N, hN⟩ : ∃ N, N = r.k.length := ⟨_, rfl⟩
  have HNc := hide (show N ≤ c0 by rw [hN]; exact hs0.1)
  rw [← hN] at hr hl
  have HN := hide hN
  have HR := hide hr
  have Hl := hide hl
  have k4 := hr.cell 4
  simp only [rtC, List.getElem?_cons_zero, List.getElem?_cons_succ] at k4
  obtain ⟨gs, hgs⟩ : ∃ gs, gs = w.heap.size := ⟨_, rfl⟩
  obtain ⟨w1, hw1⟩ : ∃ z, z = w.alloc (.cells #[.pointer (some ⟨gd, 0, none⟩), .slice none 0 0, .slice none 0 0] tSt) := ⟨_, rfl⟩
  have H0 := hide (show RsIn w1 (· = gs) gs gd [] from by
    rw [hw1, hgs]
    exact ⟨_, _, Row.fresh w tSt _, OTS.nil _ _ _, OTS.nil _ _ _, rfl, fun k hk => by rw [hk, World.size_alloc]; exact Nat.lt_succ_self _⟩)
  have Hb0 := hide (show Below w.heap.size w w1 from by rw [hw1]; exact (Below.refl _ w).alloc (Nat.le_refl _) _)
  have HW1 := hide hw1
  have HGs := hide hgs
  clear hr ho hg hb hs0 hdead hN hT hgs hw1 hl
  go_enter Tryd.func13, Tryd.ntmps13
  go_wp2
  rw [← HW1.out, ← HGs.out]
  clear k4
  go_loopw [5] (fun i wr => ∃ (a : Nat) (L : List Bs) (S : Nat → Prop), i = .int .i64 (a : Int) ∧ a ≤ N ∧ Hid (L.length ≤ a ∧ ∀ k, S k → w.heap.size ≤ k) ∧ Hid (RsIn wr S gs gd L) ∧ Hid (Below w.heap.size w wr) ∧ Hid (op [] r.k 0 = op L (r.k.drop a) a)) (fun i _ => N - (intOf i).toNat)
  case atStart => exact ⟨0, [], (· = gs), rfl, Nat.zero_le _, by show Hid _; exact hide ⟨Nat.zero_le _, fun k hk => by rw [hk, HGs.out]; exact Nat.le_refl _⟩, by show Hid _; exact H0, by show Hid _; exact Hb0, by show Hid _; exact hide (by rw [List.drop_zero])⟩
  case round =>
    obtain ⟨a, L, S, rfl, ha, HLa, HS, HB, HO⟩ := hrel
    have HC0 := hide (fun (wz : World) (hz : Below w.heap.size w wz) => show wz.cell? ⟨gd, 0, none⟩ = some (.slice A0 N c0) from (HR.out.below hz HR.out.lt).cell 0)
    have c0r := HC0.out wr HB.out
    clear H0 Hb0 HW1
    by_cases hlt : a < N
    · generalize hB9 : Code.region 9 _ _ = B9
      generalize hB16 : Code.region 16 _ _ = B16
      generalize hB18 : Code.region 18 _ _ = B18
      generalize hB20 : Code.region 20 _ _ = B20
      generalize hB25 : Code.seq (Code.region 25 _ _) _ = B25
      have HB9 := hide hB9
      have HB16 := hide hB16
      have HB18 := hide hB18
      have HB20 := hide hB20
      have HB25 := hide hB25
      clear hB9 hB16 hB18 hB20 hB25
      obtain ⟨A1, hA1⟩ : ∃ z, z = (if c0 = a then A0 else A0.map (·.add a)) := ⟨_, rfl⟩
      obtain ⟨c1, hc1⟩ : ∃ z, z = c0 - a := ⟨_, rfl⟩
      obtain ⟨n1, hn1⟩ : ∃ z, z = N - a := ⟨_, rfl⟩
      have hrb := fun wz => run_back wz A0 N c0 a ha HNc.out
      rw [← hA1, ← hc1, ← hn1] at hrb
      obtain ⟨bs, hbs⟩ : ∃ z, z = r.k.drop a := ⟨_, rfl⟩
      have hnl : n1 = bs.length := by rw [hbs, List.length_drop, ← HN.out]; exact hn1
      rw [← hbs] at HO
      obtain ⟨g, hg⟩ : ∃ z, z = wr.heap.size := ⟨_, rfl⟩
      obtain ⟨w1, hw1⟩ : ∃ z, z = wr.alloc (.cells #[.slice A1 n1 c1, .int .i64 0, .int .i64 0] 74) := ⟨_, rfl⟩
      have HRR := hide (show RR w1 w.heap.size g bs 0 0 from ⟨A1, c1, by rw [hw1, hg, hnl]; exact Row.fresh wr _ _, by
        rw [hbs, hA1, hc1]
        refine ((Hs0.out.cut (k := a) (by have := HN.out; omega)).move (w' := w1) fun b hb hlt => ?_).imp fun b _ h => h.2
        have hz : Below w.heap.size w w1 := by rw [hw1]; exact HB.out.alloc HB.out.size _
        exact hz.block b hb.2, by rw [hg]; exact HB.out.size, Nat.zero_le _, by rw [← hnl]; have := HL.out; have := HN.out; omega⟩)
      have HW1 := hide hw1
      have HG := hide hg
      have HNl := hide hnl
      have HBs := hide hbs
      have HN1 := hide hn1
      have Hlt := hide hlt
      have HNe := hide (show bs ≠ [] from fun h => by have h1 := HNl.out; have h2 := HN1.out; have h3 := Hlt.out; rw [h, List.length_nil] at h1; omega)
      clear hA1 hc1 hw1 hg hnl hbs hn1
      go_wp2_with fail
      rw [← HW1.out, ← HG.out]
      clear hrb c0r
      refine (rread_num HRR.out).mono ?_
      rintro y w2 ⟨n, t, e, rfl, hr2, hst, ho2⟩
      rw [List.drop_zero] at hst
      have hto : t ≤ bs.length := by obtain ⟨_, _, _, _, _, h1, _⟩ := hr2; exact h1
      have HOn := hide (one_of hst hto)
      have Hto := hide hto
      have HQ := hide (show RO w w2 S gd gs g L bs t e from by
        rw [HW1.out, HNl.out] at ho2
        rw [HG.out] at ho2 hr2 ⊢
        exact RO.made HB.out HS.out HLa.out.2 hr2 ho2)
      have d2 := HQ.out.cells.2
      clear hst ho2 hr2 HRR HW1 HG hto HS HB
      by_cases he2 : e = 2
      · subst he2
        have HOp := hide (show op [] r.k 0 = (0, L, a) from by rw [HO.out]; exact op_torn (one_torn1 HOn.out rfl))
        go_wp2
        rename_i KK hKK
        refine cut9 _ _ _ _ _ _ _ _ _ _ _ _ _ _ _ _ _ _ _ _ _ _ _ _ _ _ _ _ _ _ _ _ _ _ _ _ _ _ _ _ _ _ _ _ _ _ _ _ _ _ _ _ _ _ _ _ _ _ _ _ _ _ _ _ _ _ _ _ _ _ _ _ _ _ _ _ _ _ _ _ _ _ _ _ _ _ _ _ _ _ _ _ _ _ _ _ _ _ _ _ _ _ _ _ _ _ _ _ _ _ _ _ _ _ _ _ _ _ _ _ _ _ _ _ _ _ _ _ _ _ _ _ _ _ _ _ _ _ _ _ _ _ _ _ _ _ _ _ _ _ _ _ _ _ _ _ _ _ _ _ _ _ _ _ _ (by rw [← HB9.out]; kernel_rfl) (Hd.out.below HQ.out.low) (by have := HN.out; omega) (by have := HL.out; omega) ?_
        intro _ _ _ _ _ _ _ _ _ _ _ w3 h3
        refine hKK _ _ ?_
        obtain ⟨Sd', h31, h32, h33⟩ := h3
        clear hKK d2
        go_wp2
        refine bodyPost_ret (results_tmp2 rfl _ _ _) rfl ?_
        exact openR_cut HOp.out rfl Hd.out HQ.out.low HQ.out.st HQ.out.up h31 h32 h33
      · have hz2 : ((e : Int) == 2) = false := by rw [beq_eq_false_iff_ne]; omega
        by_cases he0 : e = 0
        · subst he0
          by_cases hnn : 131072 < n
          · have dn : decide (131072 < n) = true := decide_eq_true hnn
            have HOp := hide (show op [] r.k 0 = (4, [], 0) from by rw [HO.out]; exact op_bad HNe.out (one_long HOn.out rfl hnn))
            go_wp2
            refine bodyPost_ret (results_tmp2 rfl _ _ _) rfl ?_
            exact openR_bad HOp.out (by decide) rfl HQ.out.low
          · have dn : decide (131072 < n) = false := decide_eq_false hnn
            obtain ⟨M, hM⟩ : ∃ M, M = bs.length - t := ⟨_, rfl⟩
            obtain ⟨q, hq⟩ : ∃ q, q = n + 4 := ⟨_, rfl⟩
            have wr1 : IntKind.i64.wrap (n : Int) = (n : Int) := IntWalk.i64_in _ (by omega)
            have wr2 : IntKind.i64.wrap ((n : Int) + 4) = (q : Int) := by rw [IntWalk.i64_in _ (by omega)]; omega
            have HLeft := hide (rleft_any HQ.out.rd)
            rw [← hM] at HLeft
            have Hnn := hide hnn
            have HM := hide hM
            have Hq := hide hq
            have dnI : decide (131072 < (n : Int)) = false := decide_eq_false (by omega)
            clear hM
            by_cases hll : M < q
            · have dl : decide (M < q) = true := decide_eq_true hll
              have HOp := hide (show op [] r.k 0 = (0, L, a) from by rw [HO.out]; exact op_torn (one_torn2 HOn.out rfl Hnn.out (by rw [← HM.out, ← Hq.out]; exact hll)))
              clear hq
              go_wp2_with fail
              refine HLeft.out.mono ?_
              rintro y w3 ⟨rfl, m3, hm3⟩
              have HQ3 := hide (show RO w w3 S gd gs g L bs t 0 from by rw [hm3]; exact HQ.out.drewN m3)
              clear HLeft d2 hm3
              go_wp2
              rename_i KK hKK
              refine cut16 _ _ _ _ _ _ _ _ _ _ _ _ _ _ _ _ _ _ _ _ _ _ _ _ _ _ _ _ _ _ _ _ _ _ _ _ _ _ _ _ _ _ _ _ _ _ _ _ _ _ _ _ _ _ _ _ _ _ _ _ _ _ _ _ _ _ _ _ _ _ _ _ _ _ _ _ _ _ _ _ _ _ _ _ _ _ _ _ _ _ _ _ _ _ _ _ _ _ _ _ _ _ _ _ _ _ _ _ _ _ _ _ _ _ _ _ _ _ _ _ _ _ _ _ _ _ _ _ _ _ _ _ _ _ _ _ _ _ _ _ _ _ _ _ _ _ _ _ _ _ _ _ _ _ _ _ _ _ _ _ _ _ _ _ _ (by rw [← HB16.out]; kernel_rfl) (Hd.out.below HQ3.out.low) (by have := HN.out; omega) (by have := HL.out; omega) ?_
              intro _ _ _ _ _ _ _ _ _ _ _ w4 h3
              refine hKK _ _ ?_
              obtain ⟨Sd', h31, h32, h33⟩ := h3
              clear hKK
              go_wp2
              refine bodyPost_ret (results_tmp2 rfl _ _ _) rfl ?_
              exact openR_cut HOp.out rfl Hd.out HQ3.out.low HQ3.out.st HQ3.out.up h31 h32 h33
            · have dl : decide (M < q) = false := decide_eq_false hll
              have hfit : a + t + n + 4 ≤ N := by have := HM.out; have := HNl.out; have := HN1.out; have := Hto.out; have := Hlt.out; omega
              have HFit := hide hfit
              have Hll := hide (show ¬ bs.length - t < n + 4 from by rw [← HM.out, ← Hq.out]; exact hll)
              obtain ⟨A8, hA8⟩ : ∃ z, z = (if c0 = a + t then A0 else A0.map (·.add (a + t))) := ⟨_, rfl⟩
              obtain ⟨c8, hc8⟩ : ∃ z, z = c0 - (a + t) := ⟨_, rfl⟩
              obtain ⟨A9, hA9⟩ : ∃ z, z = (if c0 = a + t + n then A0 else A0.map (·.add (a + t + n))) := ⟨_, rfl⟩
              obtain ⟨c9, hc9⟩ : ∃ z, z = c0 - (a + t + n) := ⟨_, rfl⟩
              obtain ⟨b, hb⟩ : ∃ z, z = (bs.drop t).take n := ⟨_, rfl⟩
              obtain ⟨X, hX⟩ : ∃ z, z = (bs.drop (t + n)).take 4 := ⟨_, rfl⟩
              have HBn := hide (show n = b.length from by rw [hb, List.length_take, List.length_drop]; have := Hll.out; omega)
              have HXn := hide (show 4 = X.length from by rw [hX, List.length_take, List.length_drop]; have := Hll.out; omega)
              have HSb := hide (fun (wz : World) (hz : Below w.heap.size w wz) => show Sl wz (fun k => k < w.heap.size) A8 c8 b from by
                rw [hA8, hc8, hb, HBs.out, List.drop_drop]
                exact (sl_front ((Hs0.out.cut (k := a + t) (by have := HN.out; omega)).imp fun k _ h => h.2) n).move fun k hk _ => hz.block k hk)
              have HSx := hide (fun (wz : World) (hz : Below w.heap.size w wz) => show Sl wz (fun k => k < w.heap.size) A9 c9 X from by
                rw [hA9, hc9, hX, HBs.out, List.drop_drop, show a + (t + n) = a + t + n by omega]
                exact (sl_front ((Hs0.out.cut (k := a + t + n) (by have := HN.out; omega)).imp fun k _ h => h.2) 4).move fun k hk _ => hz.block k hk)
              have HA8 := hide hA8
              have HC8 := hide hc8
              have HA9 := hide hA9
              have HC9 := hide hc9
              have Hbd := hide hb
              have HXd := hide hX
              clear hq hA8 hc8 hA9 hc9 hb hX hfit hll
              go_wp2_with fail
              refine HLeft.out.mono ?_
              rintro y w3 ⟨rfl, m3, hm3⟩
              have HQ3 := hide (show RO w w3 S gd gs g L bs t 0 from by rw [hm3]; exact HQ.out.drewN m3)
              clear HLeft d2 hm3
              go_wp2
              clear dl wr1 wr2 dn dnI hnn hz2
              rename_i KK hKK
              refine op18 _ _ _ _ _ _ _ _ _ _ _ _ _ _ _ _ _ _ _ _ _ _ _ _ _ _ _ _ _ _ _ _ _ _ _ _ _ _ _ _ _ _ _ _ _ _ _ _ _ _ _ _ _ _ _ _ _ _ _ _ _ _ _ _ _ _ _ _ _ _ _ _ _ _ _ _ _ _ _ _ _ _ _ _ _ _ _ _ _ _ _ _ _ _ _ _ _ _ _ _ _ _ _ _ _ _ _ _ _ _ _ _ _ _ _ _ _ _ _ _ _ _ _ _ _ _ _ _ _ _ _ _ _ _ _ _ _ _ _ _ _ _ _ _ _ _ _ _ _ _ _ _ _ _ _ _ _ _ _ _ _ _ (by rw [← HB18.out]; kernel_rfl) (HC0.out _ HQ3.out.low) HQ3.out.cells.1 HFit.out HNc.out (by have := Hl.out; omega) HA8.out HC8.out ?_
              intro _ _ _ _ _ _ _ _ _ _ _ _ _ _ _ _ _ _ _ _ w4 h4
              refine hKK _ _ ?_
              obtain ⟨m4, hm4⟩ := h4
              have HQ4 := hide (show RO w w4 S gd gs g L bs t 0 from by rw [hm4]; exact HQ3.out.drewN m4)
              have HOf := hide (rof_any b A8 c8 _ _ (HSb.out _ HQ4.out.low) (by have := HBn.out; have := Hnn.out; omega) (tabR_keep HT.out HQ4.out.low))
              rw [← HBn.out] at HOf
              clear hKK KK HQ3 HQ hm4
              go_wp2_with fail
              refine HOf.out.mono ?_
              rintro y w5 ⟨rfl, hb5⟩
              have HQ5 := hide (HQ4.out.keep hb5)
              obtain ⟨id, hid⟩ : ∃ id, id = sha b := ⟨_, rfl⟩
              have HId := hide hid
              rw [← hid]
              clear hid hb5 HOf HQ4
              go_wp2
              rename_i KK hKK
              obtain ⟨bb, hbb⟩ : ∃ bb, bb = decide (id.take 4 = X) := ⟨_, rfl⟩
              have Hbb := hide hbb
              refine op20 _ _ _ _ _ _ _ _ _ _ _ _ _ _ _ _ _ _ _ _ _ _ _ _ _ _ _ _ _ _ _ _ _ _ _ _ _ _ _ _ _ _ _ _ _ _ _ _ _ _ _ _ _ _ _ _ _ _ _ _ _ _ _ _ _ _ _ _ _ _ _ _ _ _ _ _ _ _ _ _ _ _ _ _ _ _ _ _ _ _ _ _ _ _ _ _ _ _ _ _ _ _ _ _ _ _ _ _ _ _ _ _ _ _ _ _ _ _ _ _ _ _ _ _ _ _ _ _ _ _ _ _ _ _ _ _ _ _ _ _ _ _ _ _ _ _ _ _ _ _ _ _ _ _ _ _ _ _ _ _ _ (by rw [← HB20.out]; kernel_rfl) (HC0.out _ HQ5.out.low) HQ5.out.cells.1 HFit.out HNc.out (by have := Hl.out; omega) (by rw [HId.out, sha_len]; decide) hbb HA9.out HC9.out (fun m => sl_text (HSx.out _ (HQ5.out.drewN m).low) HXn.out) ?_
              intro _ _ _ _ _ _ _ _ _ _ _ _ _ _ _ _ _ _ _ _ _ _ _ _ _ _ _ w6 h6
              refine hKK _ _ ?_
              obtain ⟨m6, hm6⟩ := h6
              have HQ6 := hide (show RO w w6 S gd gs g L bs t 0 from by rw [hm6]; exact HQ5.out.drewN m6)
              clear hKK KK HQ5 hbb hm6
              cases bb with
              | false =>
                have h5 : ¬ id.take 4 = X := of_decide_eq_false Hbb.out.symm
                have HOp := hide (show op [] r.k 0 = (12, [], 0) from by rw [HO.out]; exact op_bad HNe.out (one_sum HOn.out rfl Hnn.out Hll.out (by rw [← Hbd.out, ← HXd.out, ← HId.out]; exact h5)))
                clear h5
                go_wp2
                refine bodyPost_ret (results_tmp2 rfl _ _ _) rfl ?_
                exact openR_bad HOp.out (by decide) rfl HQ6.out.low
              | true =>
                have h5 : id.take 4 = X := of_decide_eq_true Hbb.out.symm
                have HGot := hide (show rdOne bs = .got b (t + n + 4) from by
                  rw [Hbd.out]
                  exact one_got HOn.out rfl Hnn.out Hll.out (by rw [← Hbd.out, ← HXd.out, ← HId.out]; exact h5))
                have HLn := hide (show L.length ≤ 1000000 from by have := HLa.out.1; have := Hl.out; omega)
                have HHas := hide (rhas_any HQ6.out.st id HLn.out)
                clear h5
                go_wp2_with fail
                refine HHas.out.mono ?_
                rintro y w7 ⟨rfl, hb7⟩
                have HQ7 := hide (HQ6.out.keep hb7)
                clear hb7 HHas HQ6
                by_cases hm : id ∈ L.map sha
                · have HOp := hide (show op [] r.k 0 = (3, [], 0) from by rw [HO.out]; exact op_dup HNe.out HGot.out (by rw [← HId.out]; exact hm))
                  rw [decide_eq_true hm]
                  clear hm
                  go_wp2
                  refine bodyPost_ret (results_tmp2 rfl _ _ _) rfl ?_
                  exact openR_bad HOp.out (by decide) rfl HQ7.out.low
                · have HOp := hide (show op [] r.k 0 = op (L ++ [b]) (r.k.drop (a + t + n + 4)) (a + t + n + 4) from by
                    rw [HO.out, op_got HNe.out HGot.out (by rw [← HId.out]; exact hm), HBs.out, List.drop_drop, show a + (t + n + 4) = a + t + n + 4 by omega])
                  rw [decide_eq_false hm]
                  clear hm
                  go_wp2
                  refine wp_last (grow _ _ _ _ _ _ _ _ _ _ _ _ _ _ _ _ _ _ _ _ _ _ _ _ _ _ _ _ _ _ _ _ _ _ _ _ _ _ _ _ _ _ _ _ _ _ _ _ _ _ _ _ _ _ _ _ _ _ _ _ _ _ _ _ _ _ _ _ _ _ _ _ _ _ _ _ _ _ _ _ _ _ _ _ _ _ _ _ _ _ _ _ _ _ _ _ _ _ _ _ _ _ _ _ _ _ _ _ _ _ _ _ _ _ _ _ _ _ _ _ _ _ _ _ _ _ _ _ _ _ _ _ _ _ _ _ _ _ _ _ _ _ _ _ _ _ _ _ _ _ _ _ _ _ _ _ _ _ _ _ (by rw [← HB25.out]; kernel_rfl) (hide HQ7.out.st) (hide (HSb.out _ HQ7.out.low)) (hide fun k hk hS => by have := HQ7.out.up k hS; omega) HBn HId HLn HQ7.out.cells.1 (hide ⟨HQ7.out.ne, HQ7.out.rd.lt⟩) (by have := HFit.out; have := Hl.out; omega) ?_)
                  intro _ _ _ _ _ _ _ _ _ _ _ _ _ _ _ _ _ _ _ _ _ _ _ _ _ _ _ _ _ _ _ w8 h8
                  obtain ⟨S', h81, h82, h83⟩ := h8
                  go_wp2
                  refine ⟨⟨a + t + n + 4, L ++ [b], S', rfl, HFit.out, ?_, ?_, ?_, ?_⟩, ?_⟩
                  · show Hid _
                    exact hide ⟨by have := HLa.out.1; rw [List.length_append, List.length_cons, List.length_nil]; omega, fun k hk => (h83 k hk).elim (HLa.out.2 k) fun x => Nat.le_trans HQ7.out.low.size x⟩
                  · show Hid _
                    exact hide h81
                  · show Hid _
                    exact hide (oth_low h82 HQ7.out.low HLa.out.2)
                  · show Hid _
                    exact HOp
                  · have := HFit.out
                    simp only [intOf]
                    omega
        · have hz0 : ((e : Int) != 0) = true := by rw [bne_iff_ne]; omega
          have HOp := hide (show op [] r.k 0 = (e, [], 0) from by rw [HO.out]; exact op_bad HNe.out (one_bad HOn.out he2 he0))
          go_wp2
          go_quiet (fail)
          go_wp2
          refine bodyPost_ret (results_tmp2 rfl _ _ _) rfl ?_
          exact openR_bad HOp.out he0 rfl (HQ.out.drewN _).low
    · obtain rfl : a = N := by omega
      have HOp := hide (show op [] r.k 0 = (0, L, a) from by rw [HO.out, show r.k.drop a = [] from by rw [HN.out, List.drop_length]]; exact op_nil _ _)
      go_wp2
      refine bodyPost_ret (results_tmp2 rfl _ _ _) rfl ?_
      exact openR_all HOp.out HN.out rfl Hd.out HB.out HS.out HLa.out.2
end Go.Proofs.YtcmjdepjckhpdaaDoor.So
namespace Go.Proofs.YtcmjdepjckhpdaaDoor.So
open Go Go.RowKit Kt Kg Wr Lw Sha Dk Dg

theorem vs_low {w : World} {P : Nat → Prop} {A : Option Addr} {c : Nat} {l : List (List UInt8)} (h : Vs w P A c (texts l)) : Vs w (fun b => b < w.heap.size) A c (texts l) := by
  refine ⟨h.1, fun h0 => ?_⟩
  obtain ⟨b, o, e, _, hc⟩ := h.2 h0
  refine ⟨b, o, e, ?_, hc⟩
  exact World.block_lt_of_cell? w _ (hc 0 _ (List.getElem?_eq_getElem h0))
theorem vs_text {w w' : World} {A : Option Addr} {c : Nat} {l : List (List UInt8)} (h : Vs w (fun b => b < w.heap.size) A c (texts l)) (hb : Below w.heap.size w w') {k : Nat} (hk : k < l.length) :
    ∃ b o, A = some ⟨b, o, none⟩ ∧ w'.cell? ⟨b, o + k, none⟩ = some (.string ⟨(l.getD k []).toArray⟩) := by
  obtain ⟨b, o, rfl, hp, hc⟩ := h.2 (by rw [texts_len]; omega)
  exact ⟨b, o, rfl, (World.cell?_of_block (a := ⟨b, o + k, none⟩) (hb.block b hp)).trans (hc k _ (texts_at l k hk))⟩
theorem texts_same (l r : List (List UInt8)) (hl : l.length = r.length) (h : ∀ j, j < l.length → l.getD j [] = r.getD j []) : l = r := by
  apply List.ext_getElem hl
  intro i h1 h2
  have := h i h1
  simpa [List.getElem?_eq_getElem h1, List.getElem?_eq_getElem h2] using this
theorem eq_txt2 (x y : List UInt8) : ((ByteArray.mk x.toArray).toList == (ByteArray.mk y.toArray).toList) = decide (x = y) := by
  rw [Lib.toList_data, Lib.toList_data, Bool.eq_iff_iff, beq_iff_eq, decide_eq_true_iff]
set_option maxHeartbeats 1000000 in
set_option maxRecDepth 100000 in
theorem ids_any (l r : List (List UInt8)) (A A' : Option Addr) (c c' : Nat) (P P' : Nat → Prop) (w : World) (hs : Vs w P A c (texts l)) (hs' : Vs w P' A' c' (texts r)) (hl : l.length ≤ 9223372036854775807) :
    Calls Tryd.prog 25 #[.slice A l.length c, .slice A' r.length c'] w fun y w' => y = .returned (.bool (decide (l = r))) ∧ Below w.heap.size w w' := by
  by_cases hlen : l.length = r.length
  · have Hs := hide (vs_low hs)
    have Hs' := hide (vs_low hs')
    clear hs hs'
    have hb0 : ((l.length : Int) != (r.length : Int)) = false := by rw [bne_eq_false_iff_eq]; omega
    have Hlen := hide hlen
    obtain ⟨N, hN⟩ : ∃ N, N = l.length := ⟨_, rfl⟩
    obtain ⟨N', hN'⟩ : ∃ N', N' = r.length := ⟨_, rfl⟩
    rw [← hN, ← hN'] at hb0 ⊢
    have HN := hide hN
    have HN' := hide hN'
    have hNl : N ≤ 9223372036854775807 := by omega
    have hNN : N = N' := by omega
    have HNN := hide hNN
    clear hN hN' hl hlen hNN
    go_enter Tryd.func25, Tryd.ntmps25
    go_wp2
    go_loopw [5] (fun i wr => ∃ k : Nat, k ≤ N ∧ i = .int .i64 k ∧ (∀ j, j < k → l.getD j [] = r.getD j []) ∧ Below w.heap.size w wr) (fun i _ => N - (intOf i).toNat)
    case atStart => exact ⟨0, Nat.zero_le _, rfl, fun j h => absurd h (Nat.not_lt_zero _), Below.refl _ _⟩
    case round =>
      obtain ⟨k, hk, rfl, hall, hb⟩ := hrel
      have Hall := hide hall
      have Hb := hide hb
      clear hall hb
      by_cases hlt : k < N
      · obtain ⟨b, o, rfl, ck⟩ := vs_text Hs.out Hb.out (k := k) (by have := HN.out; omega)
        obtain ⟨b', o', rfl, ck'⟩ := vs_text Hs'.out Hb.out (k := k) (by have := HN'.out; have := HNN.out; omega)
        have hlt' : k < N' := by have := HNN.out; omega
        by_cases hx : l.getD k [] = r.getD k []
        · have Hx := hide hx
          rw [hx] at ck
          clear hx
          generalize (r.getD k []).toArray = x at *
          go_wp2
          go_quiet (fail)
          go_wp2
          refine ⟨⟨k + 1, by omega, by go_num, fun j hj => ?_, below_drewN Hb.out _⟩, by simp [intOf]; omega⟩
          rcases Nat.lt_or_ge j k with hj' | hj'
          · exact Hall.out j hj'
          · obtain rfl : j = k := by omega
            exact Hx.out
        · have hxn := eq_txt2 (l.getD k []) (r.getD k [])
          rw [decide_eq_false hx] at hxn
          have Hx := hide hx
          clear hx
          generalize (r.getD k []).toArray = x at *
          generalize (l.getD k []).toArray = y at *
          go_wp2
          go_quiet (fail)
          go_wp2
          go_ret
          refine ⟨?_, below_drewN Hb.out _⟩
          have hd : decide (l = r) = false := decide_eq_false fun h => Hx.out (by rw [h])
          rw [hd]; rfl
      · obtain rfl : k = N := by omega
        go_wp2
        go_ret
        refine ⟨?_, Hb.out⟩
        have hd : decide (l = r) = true := decide_eq_true (texts_same l r Hlen.out fun j hj => Hall.out j (by have := HN.out; omega))
        rw [hd]; rfl
  · have hb0 : ((l.length : Int) != (r.length : Int)) = true := by rw [bne_iff_ne]; omega
    have Hd := hide (show decide (l = r) = false from decide_eq_false fun h => hlen (by rw [h]))
    clear hs hs' hlen
    go_enter Tryd.func25, Tryd.ntmps25
    go_wp2
    go_ret
    exact ⟨by rw [Hd.out]; rfl, Below.refl _ _⟩

abbrev pt (g : Nat) : Value := .pointer (some ⟨g, 0, none⟩)
/-- what a store does, in the blocks it is made of; behind the world w0, that is ahead of the law -/
structure Ct (w0 : World) (In : World → (Nat → Prop) → Nat → Nat → List Bs → Prop) : Prop where
  lt : ∀ {w : World} {S : Nat → Prop} {gs gd : Nat} {L : List Bs}, In w S gs gd L → ∀ k, S k → k < w.heap.size
  move : ∀ {w w' : World} {S : Nat → Prop} {gs gd : Nat} {L : List Bs}, In w S gs gd L → (∀ b, S b → w'.heap[b]? = w.heap[b]?) → w.heap.size ≤ w'.heap.size → In w' S gs gd L
  many : ∀ {w : World} {S : Nat → Prop} {gs gd : Nat} {L : List Bs}, Below w0.heap.size w0 w → In w S gs gd L → L.length ≤ 1000 →
    Calls Tryd.prog 27 #[pt gs] w fun y w' => y = .returned (.int .i64 (L.length : Int)) ∧ Below w.heap.size w w'
  has : ∀ {w : World} {S : Nat → Prop} {gs gd : Nat} {L : List Bs} (id : Bs), Below w0.heap.size w0 w → In w S gs gd L → L.length ≤ 1000 →
    Calls Tryd.prog 32 #[pt gs, .string ⟨id.toArray⟩] w fun y w' => y = .returned (.bool (decide (id ∈ L.map sha))) ∧ Below w.heap.size w w'
  get : ∀ {w : World} {S : Nat → Prop} {gs gd : Nat} {L : List Bs} (id : Bs), Below w0.heap.size w0 w → In w S gs gd L → L.length ≤ 1000 →
    Calls Tryd.prog 26 #[pt gs, .string ⟨id.toArray⟩] w fun y w' => ∃ v, y = .returned (.tuple #[v, .bool (got L id).isSome]) ∧ Own w' w.heap.size tU8 v ((got L id).getD []) ∧ Below w.heap.size w w'
  ids : ∀ {w : World} {S : Nat → Prop} {gs gd : Nat} {L : List Bs}, Below w0.heap.size w0 w → In w S gs gd L → L.length ≤ 1000 →
    Calls Tryd.prog 23 #[pt gs] w fun y w' => ∃ v, y = .returned v ∧ OwT w' w.heap.size tId v (L.map sha) ∧ Below w.heap.size w w'
  put : ∀ {w : World} {S Sd : Nat → Prop} {gs gd : Nat} {L : List Bs} {s : Dk.St} (b : Bs) (A : Option Addr) (c : Nat) (Pb : Nat → Prop), Below w0.heap.size w0 w → In w S gs gd L → DkIn w Sd gd s → s.fit → (∀ k, S k → ¬ Sd k) → (∀ k, S k ∨ Sd k → w0.heap.size ≤ k) →
    Sl w Pb A c b → (∀ k, Pb k → ¬ S k ∧ ¬ Sd k) → b.length ≤ 1000 → L.length ≤ 1000 →
    Calls Tryd.prog 15 #[pt gs, .slice A b.length c] w fun y w' => y = .returned (.tuple #[.string ⟨(put ⟨s, L⟩ b).2.1.toArray⟩, .int .i64 ((put ⟨s, L⟩ b).2.2 : Int)]) ∧
      ∃ S' Sd', In w' S' gs gd (put ⟨s, L⟩ b).1.L ∧ DkIn w' Sd' gd (put ⟨s, L⟩ b).1.s ∧ Oth (fun k => S k ∨ Sd k) w w' ∧ (∀ k, S' k ∨ Sd' k → S k ∨ Sd k ∨ w.heap.size ≤ k) ∧ ∀ k, S' k → ¬ Sd' k
  opened : ∀ {w : World} {Sd : Nat → Prop} {gd : Nat} {s : Dk.St}, Below w0.heap.size w0 w → DkIn w Sd gd s → s.fit → s.dead = false → (∀ k, Sd k → w0.heap.size ≤ k) → s.k.length ≤ 4000 →
    Calls Tryd.prog 12 #[pt gd] w fun y w' =>
      ((op [] s.k 0).1 ≠ 0 ∧ y = .returned (.tuple #[.pointer none, .int .i64 ((op [] s.k 0).1 : Int)]) ∧ ∃ Sd', DkIn w' Sd' gd s ∧ Oth Sd w w' ∧ ∀ k, Sd' k → Sd k ∨ w.heap.size ≤ k) ∨
      ((op [] s.k 0).1 = 0 ∧ ∃ gs S Sd', y = .returned (.tuple #[pt gs, .int .i64 0]) ∧ In w' S gs gd (op [] s.k 0).2.1 ∧ (∀ k, S k → w.heap.size ≤ k) ∧
        DkIn w' Sd' gd ⟨s.k.take (op [] s.k 0).2.2, s.room, s.fuse, s.dead⟩ ∧ Oth Sd w w' ∧ (∀ k, Sd' k → Sd k ∨ w.heap.size ≤ k) ∧ ∀ k, S k → ¬ Sd' k)
theorem Ct.below {w0 w w' : World} {In : World → (Nat → Prop) → Nat → Nat → List Bs → Prop} {S : Nat → Prop} {gs gd : Nat} {L : List Bs} (C : Ct w0 In) (h : In w S gs gd L) (hb : Below w.heap.size w w') : In w' S gs gd L :=
  C.move h (fun b hS => hb.block b (C.lt h b hS)) hb.size
theorem Ct.oth {w0 w w' : World} {In : World → (Nat → Prop) → Nat → Nat → List Bs → Prop} {S T : Nat → Prop} {gs gd : Nat} {L : List Bs} (C : Ct w0 In) (h : In w S gs gd L) (ho : Oth T w w') (hd : ∀ k, S k → ¬ T k) : In w' S gs gd L :=
  C.move h (fun b hS => ho.block b (C.lt h b hS) (hd b hS)) ho.size
end Go.Proofs.YtcmjdepjckhpdaaDoor.So
