/-
  A graph of ids: a chain that is added from behind; the chapter's example.
-/
import Derived.Test.YtplmcpdlommmaaaQDC
import Derived.Test.YtplmcpdlommmaaaQDE
namespace Go.Proofs.Ytplmcpdlommmaaa.Dq
open Go Tr

def idC (i : Nat) : Bs := [UInt8.ofNat (122 - i)]
/-- the chain of n, of which the last k are added -/
def ch (n : Nat) : Nat → List Nd
  | 0 => []
  | k + 1 => (add (ch n k) (idC (n - 1 - k)) [idC (n - 2 - k)]).1
def stepOk (n k : Nat) : Bool := decide ((add (ch n k) (idC (n - 1 - k)) [idC (n - 2 - k)]).2 = []) && decide (all (ch n (k + 1)) true = []) && decide ((all (ch n (k + 1)) false).length = k + 1) && decide (lacks (ch n (k + 1)) = [idC (n - 2 - k)])
def endOk (n : Nat) : Bool := decide ((add (ch n (n - 1)) (idC 0) []).2 = (List.range n).map idC) &&
  (List.range n).all (fun i => decide (level (add (ch n (n - 1)) (idC 0) []).1 (idC i) = (i : Int))) && decide (all (add (ch n (n - 1)) (idC 0) []).1 false = []) && decide (lacks (add (ch n (n - 1)) (idC 0) []).1 = []) && decide (heads (add (ch n (n - 1)) (idC 0) []).1 = [idC (n - 1)])
theorem steps_ok : ((List.range 13).all fun n => (List.range (n - 1)).all (stepOk n)) = true := by decide +kernel
theorem ends_ok : ((List.range 12).all fun n => endOk (n + 1)) = true := by decide +kernel
theorem step_ok {n k : Nat} (hn : n ≤ 12) (hk : k + 1 < n) : (add (ch n k) (idC (n - 1 - k)) [idC (n - 2 - k)]).2 = [] ∧ all (ch n (k + 1)) true = [] ∧ (all (ch n (k + 1)) false).length = k + 1 ∧ lacks (ch n (k + 1)) = [idC (n - 2 - k)] := by
  have h := List.all_eq_true.1 (List.all_eq_true.1 steps_ok n (List.mem_range.2 (by omega))) k (List.mem_range.2 (by omega))
  unfold stepOk at h
  simpa [and_assoc] using h
theorem end_ok {n : Nat} (h1 : 1 ≤ n) (hn : n ≤ 12) : (add (ch n (n - 1)) (idC 0) []).2 = (List.range n).map idC ∧ (∀ i, i < n → level (add (ch n (n - 1)) (idC 0) []).1 (idC i) = (i : Int)) ∧
    all (add (ch n (n - 1)) (idC 0) []).1 false = [] ∧ lacks (add (ch n (n - 1)) (idC 0) []).1 = [] ∧ heads (add (ch n (n - 1)) (idC 0) []).1 = [idC (n - 1)] := by
  have h := List.all_eq_true.1 ends_ok (n - 1) (List.mem_range.2 (by omega))
  rw [Nat.sub_add_cancel h1] at h
  unfold endOk at h
  simpa [and_assoc] using h
/-- the chapter's example -/
theorem awake_ok : (add [] [98] [[97]]).2 = [] ∧ lacks (add [] [98] [[97]]).1 = [[97]] ∧ (add (add [] [98] [[97]]).1 [97] []).2 = [[97], [98]] ∧ level (add (add [] [98] [[97]]).1 [97] []).1 [98] = 1 ∧ above (add (add [] [98] [[97]]).1 [97] []).1 [97] [98] = true ∧
    heads (add (add [] [98] [[97]]).1 [97] []).1 = [[98]] ∧ (all (add (add [] [98] [[97]]).1 [97] []).1 true).length = 2 := by decide +kernel
end Go.Proofs.Ytplmcpdlommmaaa.Dq
namespace Go.Proofs.Ytplmcpdlommmaaa.Dq
open Go Go.RowKit Kt Kg Lw Tr

theorem lit_ids (w : World) (l : List Bs) (cs : Array Value) (hc : cs = (texts l).toArray) : Vs (w.alloc (.cells cs tId)) (fun b => b = w.heap.size) (some ⟨w.heap.size, 0, none⟩) l.length (texts l) := by
  subst hc
  refine ⟨by rw [texts_len]; exact Nat.le_refl _, fun _ => ⟨w.heap.size, 0, rfl, rfl, fun j v hj => ?_⟩⟩
  rw [Nat.zero_add, (Row.fresh w tId (texts l).toArray).cell]
  simpa using hj
theorem own_vs {w : World} {B : Nat} {v : Value} {l : List Bs} (h : OwT w B tId v l) : ∃ A c, v = .slice A l.length c ∧ Vs w (fun b => b < w.heap.size) A c (texts l) ∧ Vs w (fun b => v.ownBlock = some b) A c (texts l) := by
  obtain ⟨A, c, e, hv⟩ := h.vs
  exact ⟨A, c, e, vs_low hv, vs_imp hv fun b _ hb => hb.2⟩
set_option maxRecDepth 100000 in
set_option maxHeartbeats 4000000 in
theorem dwake_any {In : World → (Nat → Prop) → Nat → List Nd → Prop} (w : World) (C : Cd w In) : Calls Try.prog 9 #[] w fun y w' => y = .returned (.bool true) ∧ Below w.heap.size w w' := by
  have HC := hide C
  have HNew := hide (GD.new C (Below.refl w.heap.size w))
  have HA := hide awake_ok
  clear C
  go_enter Try.func9, Try.ntmps9
  go_wp2_with fail
  refine HNew.out.mono ?_
  rintro y w1 ⟨g, rfl, hg1, hb1⟩
  have hg1 : GD In w w1 g [] (fun _ => False) := hg1.imp fun _ h => h.elim
  obtain ⟨wa, hwa⟩ : ∃ z, z = w1.alloc (.cells #[.string ⟨#[97]⟩] tId) := ⟨_, rfl⟩
  have hba : Below w1.heap.size w1 wa := by rw [hwa]; exact (Below.refl _ w1).alloc (Nat.le_refl _) _
  have hsa : Vs wa (fun b => b = w1.heap.size) (some ⟨w1.heap.size, 0, none⟩) 1 (texts [[97]]) := by rw [hwa]; exact lit_ids w1 [[97]] _ rfl
  have HAdd := hide (show Calls Try.prog 12 #[pt g, .string ⟨#[98]⟩, .slice (some ⟨w1.heap.size, 0, none⟩) 1 1] wa _ from
    (hg1.below HC.out hba).add HC.out [98] [[97]] (some ⟨w1.heap.size, 0, none⟩) 1 _ (by decide) hsa (fun k hk => .inl (.inr (by subst hk; exact ⟨Nat.le_refl _, by rw [hwa, World.size_alloc]; exact Nat.lt_succ_self _⟩))) (by decide) (by decide))
  have HWa := hide hwa
  clear hg1 hb1 hba hsa hwa HNew
  go_wp2_with fail
  rw [← HWa.out]
  refine HAdd.out.mono ?_
  rintro y w2 ⟨v2, rfl, hown2, hg2, _, hlen2, _⟩
  rw [HA.out.1] at hown2
  obtain ⟨A2, c2, rfl, _, _⟩ := own_vs hown2
  have HG2 := hide (hg2.imp (F' := fun _ => False) fun _ h => h.elim)
  obtain ⟨D1, hD1⟩ : ∃ D, D = (Dq.add [] [98] [[97]]).1 := ⟨_, rfl⟩
  rw [← hD1] at HA HG2 hlen2
  have HLen := hide hlen2
  have HLa := hide (HG2.out.lacks HC.out)
  rw [HA.out.2.1] at HLa
  clear hown2 hg2 HAdd HWa hD1 hlen2
  go_wp2_with fail
  refine HLa.out.mono ?_
  rintro y w3 ⟨v3, rfl, hown3, hb3⟩
  have hg3 := HG2.out.below HC.out hb3
  obtain ⟨A3, c3, e3, hv3, hv3o⟩ := own_vs hown3
  have hF3 : ∀ k, v3.ownBlock = some k → w2.heap.size ≤ k ∧ k < w3.heap.size := fun k hk => World.ownsRow.lt hown3 k hk
  have HAdd := hide (show Calls Try.prog 12 #[pt g, .string ⟨#[97]⟩, .slice none 0 0] w3 _ from
    (hg3.imp (F' := fun k => v3.ownBlock = some k) fun k hk => .inr (hF3 k hk)).add HC.out [97] [] none 0 (fun _ => False) (by have := HLen.out; have e : ([] : List Nd).length = 0 := rfl; omega) ⟨Nat.zero_le _, fun h => by simp [texts] at h⟩ (fun k hk => hk.elim) (by decide) (by decide))
  have HV3 := hide hv3o
  subst e3
  clear hown3 hb3 hg3 hv3 hv3o hF3 HLa HG2 HLen
  go_wp2_with fail
  refine HAdd.out.mono ?_
  rintro y w4 ⟨v4, rfl, hown4, hg4, hf4, _, _⟩
  rw [HA.out.2.2.1] at hown4
  obtain ⟨A4, c4, e4, hv4, _⟩ := own_vs hown4
  have HG4 := hide (hg4.imp (F' := fun _ => False) fun _ h => h.elim)
  obtain ⟨D2, hD2⟩ : ∃ D, D = (Dq.add D1 [97] []).1 := ⟨_, rfl⟩
  rw [← hD2] at HA HG4
  have hv3 := vs_low (vs_move (w' := w4) HV3.out hf4)
  subst e4
  obtain ⟨wb, hwb⟩ : ∃ z, z = w4.alloc (.cells #[.string ⟨#[97]⟩] tId) := ⟨_, rfl⟩
  have hbb : Below w4.heap.size w4 wb := by rw [hwb]; exact (Below.refl _ w4).alloc (Nat.le_refl _) _
  have hsb : Vs wb (fun b => b = w4.heap.size) (some ⟨w4.heap.size, 0, none⟩) 1 (texts [[97]]) := by rw [hwb]; exact lit_ids w4 [[97]] _ rfl
  have HI1 := hide (ids_any [[97]] [[97]] A3 (some ⟨w4.heap.size, 0, none⟩) c3 1 _ _ wb (vs_keep hv3 hbb) hsb (by decide))
  rw [decide_eq_true rfl] at HI1
  simp only [List.length_cons, List.length_nil, Nat.zero_add] at HI1
  have HGb := hide (HG4.out.stay HC.out hbb)
  have HV4 := hide (vs_keep hv4 hbb)
  have HSz := hide hbb.size
  have HWb := hide hwb
  clear hown4 hg4 hf4 hv3 hv4 hD2 hbb hsb hwb HAdd HV3 HG4
  go_wp2_with fail
  rw [← HWb.out]
  refine HI1.out.mono ?_
  rintro y w5 ⟨rfl, hb5⟩
  obtain ⟨wc, hwc⟩ : ∃ z, z = w5.alloc (.cells #[.string ⟨#[97]⟩, .string ⟨#[98]⟩] tId) := ⟨_, rfl⟩
  have hbc : Below w5.heap.size w5 wc := by rw [hwc]; exact (Below.refl _ w5).alloc (Nat.le_refl _) _
  have hsc : Vs wc (fun b => b = w5.heap.size) (some ⟨w5.heap.size, 0, none⟩) 2 (texts [[97], [98]]) := by rw [hwc]; exact lit_ids w5 [[97], [98]] _ rfl
  have hbw : Below wb.heap.size wb wc := hb5.trans (hbc.mono hb5.size)
  have HI2 := hide (ids_any [[97], [98]] [[97], [98]] A4 (some ⟨w5.heap.size, 0, none⟩) c4 2 _ _ wc (vs_keep (vs_low HV4.out) hbw) hsc (by decide))
  rw [decide_eq_true rfl] at HI2
  simp only [List.length_cons, List.length_nil, Nat.zero_add, Nat.reduceAdd] at HI2
  have HGc := hide (HGb.out.stay HC.out hbw)
  have HWc := hide hwc
  clear hb5 hbc hsc hbw hwc HI1 HWb HGb HV4 HSz
  go_wp2_with fail
  rw [← HWc.out]
  refine HI2.out.mono ?_
  rintro y w6 ⟨rfl, hb6⟩
  have HG6 := hide (HGc.out.stay HC.out hb6)
  have HLv := hide (show Calls Try.prog 23 #[pt g, .string ⟨#[98]⟩] w6 fun y w' => y = .returned (.int .i64 1) ∧ Below w6.heap.size w6 w' from by
    have := HG6.out.level HC.out [98] (by decide)
    rwa [HA.out.2.2.2.1] at this)
  clear hb6 HI2 HWc HGc
  go_wp2_with fail
  refine HLv.out.mono ?_
  rintro y w7 ⟨rfl, hb7⟩
  have HG7 := hide (HG6.out.stay HC.out hb7)
  have HAb := hide (show Calls Try.prog 29 #[pt g, .string ⟨#[97]⟩, .string ⟨#[98]⟩] w7 fun y w' => y = .returned (.bool true) ∧ Below w7.heap.size w7 w' from by
    have := HG7.out.above HC.out [97] [98] (by decide) (by decide)
    rwa [HA.out.2.2.2.2.1] at this)
  clear hb7 HLv HG6
  go_wp2_with fail
  refine HAb.out.mono ?_
  rintro y w8 ⟨rfl, hb8⟩
  have HG8 := hide (HG7.out.stay HC.out hb8)
  have HHe := hide (HG8.out.heads HC.out)
  rw [HA.out.2.2.2.2.2.1] at HHe
  clear hb8 HAb HG7
  go_wp2_with fail
  refine HHe.out.mono ?_
  rintro y w9 ⟨v9, rfl, hown9, hb9⟩
  obtain ⟨A9, c9, e9, hv9, _⟩ := own_vs hown9
  subst e9
  obtain ⟨wd, hwd⟩ : ∃ z, z = w9.alloc (.cells #[.string ⟨#[98]⟩] tId) := ⟨_, rfl⟩
  have hbd : Below w9.heap.size w9 wd := by rw [hwd]; exact (Below.refl _ w9).alloc (Nat.le_refl _) _
  have hsd : Vs wd (fun b => b = w9.heap.size) (some ⟨w9.heap.size, 0, none⟩) 1 (texts [[98]]) := by rw [hwd]; exact lit_ids w9 [[98]] _ rfl
  have HI3 := hide (ids_any [[98]] [[98]] A9 (some ⟨w9.heap.size, 0, none⟩) c9 1 _ _ wd (vs_keep hv9 hbd) hsd (by decide))
  rw [decide_eq_true rfl] at HI3
  simp only [List.length_cons, List.length_nil, Nat.zero_add] at HI3
  have HGd := hide (HG8.out.stay HC.out (hb9.trans (hbd.mono hb9.size)))
  have HWd := hide hwd
  clear hown9 hb9 hv9 hbd hsd hwd HHe HG8
  go_wp2_with fail
  rw [← HWd.out]
  refine HI3.out.mono ?_
  rintro y wE ⟨rfl, hbE⟩
  have HGE := hide (HGd.out.stay HC.out hbE)
  have HMa := hide (HGE.out.many HC.out)
  rw [HA.out.2.2.2.2.2.2] at HMa
  clear hbE HI3 HWd HGd
  go_wp2_with fail
  refine HMa.out.mono ?_
  rintro y wF ⟨rfl, hbF⟩
  have HBF := hide (HGE.out.low.trans (hbF.mono HGE.out.low.size))
  clear hbF HMa HGE
  go_wp2
  go_ret
  exact ⟨rfl, HBF.out⟩
end Go.Proofs.Ytplmcpdlommmaaa.Dq
