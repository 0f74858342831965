/-
  The reference of patches: a patch's form, or that it isn't right; its name.
-/
import Derived.BigQuiet
import Derived.Test.YtabgkfkjnpcbkaaDoorQB
import Derived.Test.YtabgkfkjnpcbkaaDoorRfE
import Derived.Test.YtabgkfkjnpcbkaaDoorQQG
namespace Go.Proofs.YtabgkfkjnpcbkaaDoor.Tr
open Go Go.RowKit Kt Lw Li Lx Df Wr

set_option maxRecDepth 100000 in
set_option maxHeartbeats 4000000 in
theorem rencode12_any (p : Pch) (Ai Ac : Option Addr) (ci cc : Nat) (w : World) (hp : PIn w p Ai Ac ci cc) :
    Calls Tryd.prog 13 #[PchV p Ai Ac ci cc] w fun y w' => ∃ v, y = .returned (.tuple #[v, .int .i64 ((pencode p).2 : Nat)]) ∧ Own w' w.heap.size 5 v (pencode p).1 ∧ Below w.heap.size w w' := by
  have HRt := hide (fun (wz : World) (h : Below w.heap.size w wz) => rright12_any p Ai Ac ci cc wz (hp.keep h))
  have HFm := hide (fun (hf : fitP p) (wz : World) (h : Below w.heap.size w wz) => rform_any p Ai Ac ci cc _ wz (hp.keep h).ids (hp.keep h).chs hf)
  have hfit : pright p = true → fitP p := fun h => fit_of (by rw [pright_within, Bool.and_eq_true] at h; exact h.1)
  have Hfit := hide hfit
  have HEn := hide (show pencode p = if pright p then (pform p, 0) else ([], 1) from rfl)
  obtain ⟨N, hN⟩ : ∃ n, n = p.ids.length := ⟨_, rfl⟩
  obtain ⟨M, hM⟩ : ∃ n, n = p.chs.length := ⟨_, rfl⟩
  unfold PchV at HRt HFm ⊢
  rw [← hN, ← hM] at HRt HFm ⊢
  generalize p.author = a at *
  generalize p.note = o at *
  generalize pform p = bs at *
  generalize pright p = pr at *
  generalize fitP p = FP at *
  generalize pencode p = en at *
  clear hp hN hM hfit
  obtain ⟨g, hg⟩ : ∃ g, g = w.heap.size := ⟨_, rfl⟩
  obtain ⟨w1, hw1⟩ : ∃ w1, w1 = w.alloc (.cells #[.slice Ai N ci, .string ⟨a.toArray⟩, .string ⟨o.toArray⟩, .slice Ac M cc] tP) := ⟨_, rfl⟩
  have hrow := Row.fresh w tP #[.slice Ai N ci, .string ⟨a.toArray⟩, .string ⟨o.toArray⟩, .slice Ac M cc]
  have hb1 : Below w.heap.size w w1 := by rw [hw1]; exact (Below.refl _ w).alloc (Nat.le_refl _) _
  rw [← hw1, ← hg] at hrow
  have HC := hide (show ∀ wz, Below w1.heap.size w1 wz → wz.cell? ⟨g, 0, none⟩ = some (.slice Ai N ci) ∧ wz.cell? ⟨g, 1, none⟩ = some (.string ⟨a.toArray⟩) ∧ wz.cell? ⟨g, 2, none⟩ = some (.string ⟨o.toArray⟩) ∧ wz.cell? ⟨g, 3, none⟩ = some (.slice Ac M cc) from fun wz hz => by
    have hr := hrow.below hz hrow.lt
    exact ⟨hr.cell 0, hr.cell 1, hr.cell 2, hr.cell 3⟩)
  have Hb1 := hide hb1
  have W1 := hide hw1
  have G1 := hide hg
  clear hrow hb1 hw1 hg
  obtain ⟨k0, k1, k2, k3⟩ := HC.out w1 (Below.refl _ _)
  go_enter Tryd.func13, Tryd.ntmps13
  go_wp2_with (first | rw [← W1.out, ← G1.out] | fail)
  refine (HRt.out w1 Hb1.out).mono ?_
  rintro y w2 ⟨rfl, hb2⟩
  have Hb12 := hide hb2
  have Hb2 := hide (Hb1.out.trans (hb2.mono Hb1.out.size))
  clear k0 k1 k2 k3 hb2 HRt
  obtain ⟨k0, k1, k2, k3⟩ := HC.out w2 Hb12.out
  cases pr with
  | false =>
    have He := hide (show en = ([], 1) from HEn.out)
    clear HEn HFm
    go_wp2
    go_ret2
    exact ⟨_, by rw [He.out]; rfl, by rw [He.out]; exact Own.nil _ _ _, Hb2.out⟩
  | true =>
    have He := hide (show en = (bs, 0) from HEn.out)
    go_wp2_with fail
    refine (HFm.out (Hfit.out (by trivial)) w2 Hb2.out).mono ?_
    rintro y w3 ⟨v3, rfl, hown3, hb3⟩
    have Hown3 := hide (own_based hown3 Hb2.out.size)
    have Hb3 := hide (Hb2.out.trans (hb3.mono Hb2.out.size))
    clear k0 k1 k2 k3 hown3 hb3 HFm HEn
    go_wp2
    go_ret2
    exact ⟨_, by rw [He.out]; rfl, by rw [He.out]; exact Hown3.out, Hb3.out⟩
set_option maxRecDepth 100000 in
set_option maxHeartbeats 4000000 in
theorem rname12_any (p : Pch) (Ai Ac : Option Addr) (ci cc : Nat) (w : World) (hp : PIn w p Ai Ac ci cc) (ht : Dg.TabR w) :
    Calls Tryd.prog 18 #[PchV p Ai Ac ci cc] w fun y w' => y = .returned (.string ⟨(pname p).toArray⟩) ∧ Below w.heap.size w w' := by
  have Ht := hide ht
  have HRt := hide (fun (wz : World) (h : Below w.heap.size w wz) => rright12_any p Ai Ac ci cc wz (hp.keep h))
  have HFm := hide (fun (hf : fitP p) (wz : World) (h : Below w.heap.size w wz) => rform_any p Ai Ac ci cc _ wz (hp.keep h).ids (hp.keep h).chs hf)
  have hfit : pright p = true → fitP p := fun h => fit_of (by rw [pright_within, Bool.and_eq_true] at h; exact h.1)
  have Hfit := hide hfit
  have HNm := hide (show pname p = if pright p then Sha.sha (pform p) else [] from rfl)
  have HSz := hide (show pright p = true → (pform p).length ≤ 131072 from fun h => (pright_is h).2.2.2.2.2.2)
  obtain ⟨N, hN⟩ : ∃ n, n = p.ids.length := ⟨_, rfl⟩
  obtain ⟨M, hM⟩ : ∃ n, n = p.chs.length := ⟨_, rfl⟩
  unfold PchV at HRt HFm ⊢
  rw [← hN, ← hM] at HRt HFm ⊢
  generalize p.author = a at *
  generalize p.note = o at *
  generalize pform p = bs at *
  generalize pright p = pr at *
  generalize fitP p = FP at *
  generalize pname p = nm at *
  clear ht hp hN hM hfit
  obtain ⟨g, hg⟩ : ∃ g, g = w.heap.size := ⟨_, rfl⟩
  obtain ⟨w1, hw1⟩ : ∃ w1, w1 = w.alloc (.cells #[.slice Ai N ci, .string ⟨a.toArray⟩, .string ⟨o.toArray⟩, .slice Ac M cc] tP) := ⟨_, rfl⟩
  have hrow := Row.fresh w tP #[.slice Ai N ci, .string ⟨a.toArray⟩, .string ⟨o.toArray⟩, .slice Ac M cc]
  have hb1 : Below w.heap.size w w1 := by rw [hw1]; exact (Below.refl _ w).alloc (Nat.le_refl _) _
  rw [← hw1, ← hg] at hrow
  have HC := hide (show ∀ wz, Below w1.heap.size w1 wz → wz.cell? ⟨g, 0, none⟩ = some (.slice Ai N ci) ∧ wz.cell? ⟨g, 1, none⟩ = some (.string ⟨a.toArray⟩) ∧ wz.cell? ⟨g, 2, none⟩ = some (.string ⟨o.toArray⟩) ∧ wz.cell? ⟨g, 3, none⟩ = some (.slice Ac M cc) from fun wz hz => by
    have hr := hrow.below hz hrow.lt
    exact ⟨hr.cell 0, hr.cell 1, hr.cell 2, hr.cell 3⟩)
  have Hb1 := hide hb1
  have W1 := hide hw1
  have G1 := hide hg
  clear hrow hb1 hw1 hg
  obtain ⟨k0, k1, k2, k3⟩ := HC.out w1 (Below.refl _ _)
  go_enter Tryd.func18, Tryd.ntmps18
  go_wp2_with (first | rw [← W1.out, ← G1.out] | fail)
  refine (HRt.out w1 Hb1.out).mono ?_
  rintro y w2 ⟨rfl, hb2⟩
  have Hb12 := hide hb2
  have Hb2 := hide (Hb1.out.trans (hb2.mono Hb1.out.size))
  clear k0 k1 k2 k3 hb2 HRt
  obtain ⟨k0, k1, k2, k3⟩ := HC.out w2 Hb12.out
  cases pr with
  | false =>
    have He := hide (show nm = [] from HNm.out)
    clear HNm HFm HSz
    go_wp2
    go_ret
    exact ⟨by rw [He.out]; rfl, Hb2.out⟩
  | true =>
    have He := hide (show nm = Sha.sha bs from HNm.out)
    have hsz := HSz.out (by trivial)
    go_wp2_with fail
    refine (HFm.out (Hfit.out (by trivial)) w2 Hb2.out).mono ?_
    rintro y w3 ⟨v3, rfl, hown3, hb3⟩
    have Hb3 := hide (Hb2.out.trans (hb3.mono Hb2.out.size))
    obtain ⟨A3, c3, rfl, hsl3⟩ := hown3.sl
    have HO := hide (Dg.rof_any bs A3 c3 _ w3 hsl3 (by omega) (Ht.out.below Hb3.out))
    obtain ⟨nb, hnb⟩ : ∃ z, z = bs.length := ⟨_, rfl⟩
    rw [← hnb] at HO ⊢
    clear k0 k1 k2 k3 hown3 hb3 HFm HNm HSz hsz hsl3 hnb
    go_wp2_with fail
    refine HO.out.mono ?_
    rintro y w4 ⟨rfl, hb4⟩
    have Hb4 := hide (Hb3.out.trans (hb4.mono Hb3.out.size))
    clear hb4 HO
    go_wp2
    go_ret
    exact ⟨by rw [He.out]; rfl, Hb4.out⟩
end Go.Proofs.YtabgkfkjnpcbkaaDoor.Tr
namespace Go.Proofs.YtabgkfkjnpcbkaaDoor.Tr
open Go Go.RowKit Kt Lw Li Lx Df Wr

set_option maxRecDepth 100000 in
set_option maxHeartbeats 8000000 in
theorem lawEncodes_any (p : Pch) (Ai Ac : Option Addr) (ci cc : Nat) (w : World) (hp : PIn w p Ai Ac ci cc) (hE : Env w) :
    Calls Tryd.prog 3 #[PchV p Ai Ac ci cc] w fun y w' => y = .returned (.bool true) ∧ Below w.heap.size w w' := by
  have HFw := hide (fun (wz : World) (h : PIn wz p Ai Ac ci cc) => pfew_any p Ai Ac ci cc _ wz h.ids h.chs h.l2 h.l3)
  have HE1 := hide (fun (wz : World) (h : PIn wz p Ai Ac ci cc) (hE : Env wz) => pencode_any p Ai Ac ci cc wz h hE.most)
  have HE2 := hide (fun (wz : World) (h : PIn wz p Ai Ac ci cc) => rencode12_any p Ai Ac ci cc wz h)
  have HR1 := hide (fun (wz : World) (h : PIn wz p Ai Ac ci cc) (hE : Env wz) => pright_any p Ai Ac ci cc wz h hE.most)
  have HR2 := hide (fun (wz : World) (h : PIn wz p Ai Ac ci cc) => rright12_any p Ai Ac ci cc wz h)
  have HN1 := hide (fun (wz : World) (h : PIn wz p Ai Ac ci cc) (hE : Env wz) => pname_any p Ai Ac ci cc wz h hE.most hE.tab)
  have HN2 := hide (fun (wz : World) (h : PIn wz p Ai Ac ci cc) (hE : Env wz) => rname12_any p Ai Ac ci cc wz h hE.tabR)
  have hlen : (pencode p).1.length ≤ 131072 := by
    unfold pencode
    split
    · next h => exact (pright_is h).2.2.2.2.2.2
    · simp
  have HBy := hide (fun (wz : World) (B B' : Option Addr) (d d' : Nat) (h1 : Sl wz (fun _ => True) B d (pencode p).1) (h2 : Sl wz (fun _ => True) B' d' (pencode p).1) => bytes_any _ _ B B' d d' _ _ wz h1 h2 (by omega))
  have HKp := hide (fun (wz w' : World) (h : PIn wz p Ai Ac ci cc) (hb : Below wz.heap.size wz w') => h.keep hb)
  obtain ⟨N, hN⟩ : ∃ n, n = p.ids.length := ⟨_, rfl⟩
  obtain ⟨M, hM⟩ : ∃ n, n = p.chs.length := ⟨_, rfl⟩
  unfold PchV at HFw HE1 HE2 HR1 HR2 HN1 HN2 ⊢
  rw [← hN, ← hM] at HFw HE1 HE2 HR1 HR2 HN1 HN2 ⊢
  generalize p.author = a at *
  generalize p.note = o at *
  generalize (pencode p).1 = bs at *
  generalize (pencode p).2 = e at *
  generalize pname p = nm at *
  generalize pright p = pr at *
  generalize fewP p = fp at *
  obtain ⟨g, hg⟩ : ∃ g, g = w.heap.size := ⟨_, rfl⟩
  obtain ⟨w1, hw1⟩ : ∃ w1, w1 = w.alloc (.cells #[.slice Ai N ci, .string ⟨a.toArray⟩, .string ⟨o.toArray⟩, .slice Ac M cc] tP) := ⟨_, rfl⟩
  have hrow := Row.fresh w tP #[.slice Ai N ci, .string ⟨a.toArray⟩, .string ⟨o.toArray⟩, .slice Ac M cc]
  have hb1 : Below w.heap.size w w1 := by rw [hw1]; exact (Below.refl _ w).alloc (Nat.le_refl _) _
  rw [← hw1, ← hg] at hrow
  have HC := hide (show ∀ wz, Below w1.heap.size w1 wz → wz.cell? ⟨g, 0, none⟩ = some (.slice Ai N ci) ∧ wz.cell? ⟨g, 1, none⟩ = some (.string ⟨a.toArray⟩) ∧ wz.cell? ⟨g, 2, none⟩ = some (.string ⟨o.toArray⟩) ∧ wz.cell? ⟨g, 3, none⟩ = some (.slice Ac M cc) from fun wz hz => by
    have hr := hrow.below hz hrow.lt
    exact ⟨hr.cell 0, hr.cell 1, hr.cell 2, hr.cell 3⟩)
  have W1 := hide hw1
  have G1 := hide hg
  have E_0 := hide (hE)
  have B_0 := hide (Below.refl w.heap.size w)
  have P_0 := hide (hp)
  clear hE hp hN hM hlen
  have hbx := hb1
  have E_1 := hide (E_0.out.keep hbx)
  have B_1 := hide (B_0.out.trans (hbx.mono B_0.out.size))
  have P_1 := hide (P_0.out.keep hbx)
  have R_1 := hide (Below.refl w1.heap.size w1)
  clear hbx E_0 B_0 P_0 hrow hb1 hw1 hg
  go_enter Tryd.func3, Tryd.ntmps3
  go_wp2_with (first | rw [← W1.out, ← G1.out] | fail)
  refine (pwake_any w1 E_1.out).mono ?_
  rintro y w2 ⟨rfl, hb2⟩
  have E_2 := hide (E_1.out.keep hb2)
  have B_2 := hide (B_1.out.trans (hb2.mono B_1.out.size))
  have P_2 := hide (P_1.out.keep hb2)
  have R_2 := hide (R_1.out.trans (hb2.mono R_1.out.size))
  clear hb2 E_1 B_1 P_1 R_1
  obtain ⟨k0, k1, k2, k3⟩ := HC.out w2 R_2.out
  go_wp2_with fail
  refine (HFw.out w2 P_2.out).mono ?_
  rintro y w3 ⟨rfl, hb3⟩
  have E_3 := hide (E_2.out.keep hb3)
  have B_3 := hide (B_2.out.trans (hb3.mono B_2.out.size))
  have P_3 := hide (P_2.out.keep hb3)
  have R_3 := hide (R_2.out.trans (hb3.mono R_2.out.size))
  clear hb3 E_2 B_2 P_2 R_2 HFw k0 k1 k2 k3
  cases fp with
  | false =>
    go_wp2
    go_ret
    exact ⟨rfl, B_3.out⟩
  | true =>
    obtain ⟨k0, k1, k2, k3⟩ := HC.out w3 R_3.out
    go_wp2_with fail
    refine (HE1.out w3 P_3.out E_3.out).mono ?_
    rintro y w4 ⟨v4, rfl, hown4, hb4⟩
    obtain ⟨A4, c4, rfl, hs4⟩ := hown4.sl
    have E_4 := hide (E_3.out.keep hb4)
    have B_4 := hide (B_3.out.trans (hb4.mono B_3.out.size))
    have P_4 := hide (P_3.out.keep hb4)
    have R_4 := hide (R_3.out.trans (hb4.mono R_3.out.size))
    have S_4 := hide (hs4.imp (Q := fun _ => True) fun _ _ _ => trivial)
    clear hb4 E_3 B_3 P_3 R_3 hown4 hs4 HE1 k0 k1 k2 k3
    obtain ⟨k0, k1, k2, k3⟩ := HC.out w4 R_4.out
    go_wp2_with fail
    refine (HE2.out w4 P_4.out).mono ?_
    rintro y w5 ⟨v5, rfl, hown5, hb5⟩
    obtain ⟨A5, c5, rfl, hs5⟩ := hown5.sl
    have E_5 := hide (E_4.out.keep hb5)
    have B_5 := hide (B_4.out.trans (hb5.mono B_4.out.size))
    have P_5 := hide (P_4.out.keep hb5)
    have R_5 := hide (R_4.out.trans (hb5.mono R_4.out.size))
    have S_5 := hide (S_4.out.move (w' := w5) fun b _ hlt => hb5.block b hlt)
    have T_5 := hide (hs5.imp (Q := fun _ => True) fun _ _ _ => trivial)
    clear hb5 E_4 B_4 P_4 R_4 S_4 hown5 hs5 HE2 k0 k1 k2 k3
    have zz0 : ((e : Int) == (e : Int)) = true := by simp
    go_wp2
    obtain ⟨t0, t1, t2, t3⟩ := HC.out w5.drew R_5.out.drew
    refine Rg.wp_region_ord (fun w' => w'.cell? ⟨g, 0, none⟩ = some (.slice Ai N ci) ∧ w'.cell? ⟨g, 1, none⟩ = some (.string ⟨a.toArray⟩) ∧ w'.cell? ⟨g, 2, none⟩ = some (.string ⟨o.toArray⟩) ∧ w'.cell? ⟨g, 3, none⟩ = some (.slice Ac M cc)) [(0, true), (1, true), (2, true), (3, true), (4, true), (5, true), (6, true), (7, true), (8, true), (9, false), (10, true), (11, true), (12, true), (14, true), (13, false), (15, false), (16, true), (17, true), (18, true), (19, true), (21, true), (20, false), (22, false), (23, true), (24, true), (25, true)] (by kernel_rfl) (by kernel_rfl) ?_
    simp only [Rg.pick, List.map_cons, List.map_nil, List.getD_cons_zero, List.getD_cons_succ]
    iterate 2 (refine Rg.ord_quiet (v := ?_) rfl (fun w' hS => ?_) ⟨t0, t1, t2, t3⟩ ?_; rotate_left; (obtain ⟨z0, z1, z2, z3⟩ := hS; go_simp; with_reducible rfl); simp only [Act.put, List.setIfInBounds_toArray, List.set_cons_succ, List.set_cons_zero])
    iterate 3 (refine Rg.ord_guarded (v := ?_) (by rfl) (fun w' hS => ?_) ⟨t0, t1, t2, t3⟩ ?_; rotate_left; (obtain ⟨z0, z1, z2, z3⟩ := hS; go_simp; with_reducible rfl); simp only [Act.put, List.setIfInBounds_toArray, List.set_cons_succ, List.set_cons_zero])
    iterate 2 (refine Rg.ord_quiet (v := ?_) rfl (fun w' hS => ?_) ⟨t0, t1, t2, t3⟩ ?_; rotate_left; (obtain ⟨z0, z1, z2, z3⟩ := hS; go_simp; with_reducible rfl); simp only [Act.put, List.setIfInBounds_toArray, List.set_cons_succ, List.set_cons_zero])
    iterate 2 (refine Rg.ord_guarded (v := ?_) (by rfl) (fun w' hS => ?_) ⟨t0, t1, t2, t3⟩ ?_; rotate_left; (obtain ⟨z0, z1, z2, z3⟩ := hS; go_simp; with_reducible rfl); simp only [Act.put, List.setIfInBounds_toArray, List.set_cons_succ, List.set_cons_zero])
    have hbd := (Below.refl w5.heap.size w5).drew
    obtain ⟨w6, hwd⟩ : ∃ z, z = w5.drew := ⟨_, rfl⟩
    rw [← hwd] at hbd t0 t1 t2 t3 ⊢
    have Hwd := hide hwd
    clear hwd
    have E_6 := hide (E_5.out.keep hbd)
    have B_6 := hide (B_5.out.trans (hbd.mono B_5.out.size))
    have P_6 := hide (P_5.out.keep hbd)
    have R_6 := hide (R_5.out.trans (hbd.mono R_5.out.size))
    have S_6 := hide (S_5.out.move (w' := w6) fun b _ hlt => hbd.block b hlt)
    have T_6 := hide (T_5.out.move (w' := w6) fun b _ hlt => hbd.block b hlt)
    clear hbd E_5 B_5 P_5 R_5 S_5 T_5
    refine Rg.ord_loud (by rfl) (fun K hK => ?_)
    go_simp
    refine (HBy.out w6 A4 A5 c4 c5 S_6.out T_6.out).mono ?_
    rintro y w7 ⟨rfl, hb7⟩
    have E_7 := hide (E_6.out.keep hb7)
    have B_7 := hide (B_6.out.trans (hb7.mono B_6.out.size))
    have P_7 := hide (P_6.out.keep hb7)
    have R_7 := hide (R_6.out.trans (hb7.mono R_6.out.size))
    have S_7 := hide (S_6.out.move (w' := w7) fun b _ hlt => hb7.block b hlt)
    have T_7 := hide (T_6.out.move (w' := w7) fun b _ hlt => hb7.block b hlt)
    clear hb7 E_6 B_6 P_6 R_6 S_6 T_6
    obtain ⟨t0, t1, t2, t3⟩ := HC.out w7 R_7.out
    refine hK _ _ (fun _ => ⟨t0, t1, t2, t3⟩) ?_
    clear hK K HBy
    iterate 2 (refine Rg.ord_quiet (v := ?_) rfl (fun w' hS => ?_) ⟨t0, t1, t2, t3⟩ ?_; rotate_left; (obtain ⟨z0, z1, z2, z3⟩ := hS; go_simp; with_reducible rfl); simp only [Act.put, List.setIfInBounds_toArray, List.set_cons_succ, List.set_cons_zero])
    iterate 2 (refine Rg.ord_guarded (v := ?_) (by rfl) (fun w' hS => ?_) ⟨t0, t1, t2, t3⟩ ?_; rotate_left; (obtain ⟨z0, z1, z2, z3⟩ := hS; go_simp; with_reducible rfl); simp only [Act.put, List.setIfInBounds_toArray, List.set_cons_succ, List.set_cons_zero])
    refine Rg.ord_loud (by rfl) (fun K hK => ?_)
    go_simp
    refine (HR1.out w7 P_7.out E_7.out).mono ?_
    rintro y w8 ⟨rfl, hb8⟩
    have E_8 := hide (E_7.out.keep hb8)
    have B_8 := hide (B_7.out.trans (hb8.mono B_7.out.size))
    have P_8 := hide (P_7.out.keep hb8)
    have R_8 := hide (R_7.out.trans (hb8.mono R_7.out.size))
    have S_8 := hide (S_7.out.move (w' := w8) fun b _ hlt => hb8.block b hlt)
    have T_8 := hide (T_7.out.move (w' := w8) fun b _ hlt => hb8.block b hlt)
    clear hb8 E_7 B_7 P_7 R_7 S_7 T_7
    obtain ⟨t0, t1, t2, t3⟩ := HC.out w8 R_8.out
    refine hK _ _ (fun _ => ⟨t0, t1, t2, t3⟩) ?_
    clear hK K HR1
    refine Rg.ord_loud (by rfl) (fun K hK => ?_)
    go_simp
    refine (HR2.out w8 P_8.out).mono ?_
    rintro y w9 ⟨rfl, hb9⟩
    have E_9 := hide (E_8.out.keep hb9)
    have B_9 := hide (B_8.out.trans (hb9.mono B_8.out.size))
    have P_9 := hide (P_8.out.keep hb9)
    have R_9 := hide (R_8.out.trans (hb9.mono R_8.out.size))
    have S_9 := hide (S_8.out.move (w' := w9) fun b _ hlt => hb9.block b hlt)
    have T_9 := hide (T_8.out.move (w' := w9) fun b _ hlt => hb9.block b hlt)
    clear hb9 E_8 B_8 P_8 R_8 S_8 T_8
    obtain ⟨t0, t1, t2, t3⟩ := HC.out w9 R_9.out
    refine hK _ _ (fun _ => ⟨t0, t1, t2, t3⟩) ?_
    clear hK K HR2
    iterate 1 (refine Rg.ord_guarded (v := ?_) (by rfl) (fun w' hS => ?_) ⟨t0, t1, t2, t3⟩ ?_; rotate_left; (obtain ⟨z0, z1, z2, z3⟩ := hS; go_simp; with_reducible rfl); simp only [Act.put, List.setIfInBounds_toArray, List.set_cons_succ, List.set_cons_zero])
    iterate 2 (refine Rg.ord_quiet (v := ?_) rfl (fun w' hS => ?_) ⟨t0, t1, t2, t3⟩ ?_; rotate_left; (obtain ⟨z0, z1, z2, z3⟩ := hS; go_simp; with_reducible rfl); simp only [Act.put, List.setIfInBounds_toArray, List.set_cons_succ, List.set_cons_zero])
    iterate 2 (refine Rg.ord_guarded (v := ?_) (by rfl) (fun w' hS => ?_) ⟨t0, t1, t2, t3⟩ ?_; rotate_left; (obtain ⟨z0, z1, z2, z3⟩ := hS; go_simp; with_reducible rfl); simp only [Act.put, List.setIfInBounds_toArray, List.set_cons_succ, List.set_cons_zero])
    refine Rg.ord_loud (by rfl) (fun K hK => ?_)
    go_simp
    refine (HN1.out w9 P_9.out E_9.out).mono ?_
    rintro y w10 ⟨rfl, hb10⟩
    have E_10 := hide (E_9.out.keep hb10)
    have B_10 := hide (B_9.out.trans (hb10.mono B_9.out.size))
    have P_10 := hide (P_9.out.keep hb10)
    have R_10 := hide (R_9.out.trans (hb10.mono R_9.out.size))
    have S_10 := hide (S_9.out.move (w' := w10) fun b _ hlt => hb10.block b hlt)
    have T_10 := hide (T_9.out.move (w' := w10) fun b _ hlt => hb10.block b hlt)
    clear hb10 E_9 B_9 P_9 R_9 S_9 T_9
    obtain ⟨t0, t1, t2, t3⟩ := HC.out w10 R_10.out
    refine hK _ _ (fun _ => ⟨t0, t1, t2, t3⟩) ?_
    clear hK K HN1
    refine Rg.ord_loud (by rfl) (fun K hK => ?_)
    go_simp
    refine (HN2.out w10 P_10.out E_10.out).mono ?_
    rintro y w11 ⟨rfl, hb11⟩
    have E_11 := hide (E_10.out.keep hb11)
    have B_11 := hide (B_10.out.trans (hb11.mono B_10.out.size))
    have P_11 := hide (P_10.out.keep hb11)
    have R_11 := hide (R_10.out.trans (hb11.mono R_10.out.size))
    have S_11 := hide (S_10.out.move (w' := w11) fun b _ hlt => hb11.block b hlt)
    have T_11 := hide (T_10.out.move (w' := w11) fun b _ hlt => hb11.block b hlt)
    clear hb11 E_10 B_10 P_10 R_10 S_10 T_10
    obtain ⟨t0, t1, t2, t3⟩ := HC.out w11 R_11.out
    refine hK _ _ (fun _ => ⟨t0, t1, t2, t3⟩) ?_
    clear hK K HN2
    iterate 1 (refine Rg.ord_guarded (v := ?_) (by rfl) (fun w' hS => ?_) ⟨t0, t1, t2, t3⟩ ?_; rotate_left; (obtain ⟨z0, z1, z2, z3⟩ := hS; go_simp; with_reducible rfl); simp only [Act.put, List.setIfInBounds_toArray, List.set_cons_succ, List.set_cons_zero])
    iterate 2 (refine Rg.ord_quiet (v := ?_) rfl (fun w' hS => ?_) ⟨t0, t1, t2, t3⟩ ?_; rotate_left; (obtain ⟨z0, z1, z2, z3⟩ := hS; go_simp; with_reducible rfl); simp only [Act.put, List.setIfInBounds_toArray, List.set_cons_succ, List.set_cons_zero])
    refine Rg.ord_nil ?_
    clear t0 t1 t2 t3
    go_wp2
    go_ret
    exact ⟨by simp, B_11.out⟩
end Go.Proofs.YtabgkfkjnpcbkaaDoor.Tr
