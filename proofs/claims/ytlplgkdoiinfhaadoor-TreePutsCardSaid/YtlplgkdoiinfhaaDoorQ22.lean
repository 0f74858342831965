/-
  What is put is got, and dropped it is gone; in whatever order unlike files are put: the law TreePuts (what is not looked at).
-/
import Derived.BigQuiet
import Derived.Test.YtlplgkdoiinfhaaDoorYA
import Derived.Test.YtlplgkdoiinfhaaDoorQ6
namespace Go.Proofs.YtlplgkdoiinfhaaDoor.Tr
open Go Go.RowKit Kt Lw Li Lx Df Wr

set_option maxRecDepth 100000 in
set_option maxHeartbeats 8000000 in
theorem putsNo1 (t : List Fl) (p x q y r : Bs) (A : Option Addr) (c : Nat) (w : World) (hs : Fls w A c t) (hE : Env w) (_hm : ∀ f ∈ t, f.path.length ≤ 9223372036854775807 ∧ f.text.length ≤ 9223372036854775807) (_hn : t.length ≤ 9223372036854775807) (hp : p.length ≤ 140737488351232) (hx : x.length ≤ 140737488351232) (hq : q.length ≤ 140737488351232) (hy : y.length ≤ 140737488351232) (hr : r.length ≤ 9223372036854775807) (hg : fewB t = false ∨ 40 < p.length + x.length ∨ 40 < q.length + y.length ∨ 300 < r.length) :
    Calls Tryd.prog 8 #[.slice A t.length c, .agg #[.string ⟨p.toArray⟩, .string ⟨x.toArray⟩], .agg #[.string ⟨q.toArray⟩, .string ⟨y.toArray⟩], .string ⟨r.toArray⟩] w fun y w' => y = .returned (.bool true) ∧ Below w.heap.size w w' := by
  have hrow := (Row.fresh w tF #[.string ⟨p.toArray⟩, .string ⟨x.toArray⟩]).alloc (.cells #[.string ⟨q.toArray⟩, .string ⟨y.toArray⟩] tF)
  have hrow2 := Row.fresh (w.alloc (.cells #[.string ⟨p.toArray⟩, .string ⟨x.toArray⟩] tF)) tF #[.string ⟨q.toArray⟩, .string ⟨y.toArray⟩]
  have hb1 := ((Below.refl w.heap.size w).alloc (Nat.le_refl _) (.cells #[.string ⟨p.toArray⟩, .string ⟨x.toArray⟩] tF)).alloc (by simp) (.cells #[.string ⟨q.toArray⟩, .string ⟨y.toArray⟩] tF)
  rw [World.size_alloc] at hrow2
  obtain ⟨w1, hw1⟩ : ∃ w1, w1 = (w.alloc (.cells #[.string ⟨p.toArray⟩, .string ⟨x.toArray⟩] tF)).alloc (.cells #[.string ⟨q.toArray⟩, .string ⟨y.toArray⟩] tF) := ⟨_, rfl⟩
  obtain ⟨g2, hg2⟩ : ∃ g2, g2 = w.heap.size + 1 := ⟨_, rfl⟩
  obtain ⟨g, hgw⟩ : ∃ g, g = w.heap.size := ⟨_, rfl⟩
  rw [← hw1] at hrow hrow2 hb1
  rw [← hg2] at hrow2
  rw [← hgw] at hrow
  have c0 : w1.cell? ⟨g, 0, none⟩ = some (.string ⟨p.toArray⟩) := hrow.cell 0
  have c1 : w1.cell? ⟨g, 1, none⟩ = some (.string ⟨x.toArray⟩) := hrow.cell 1
  have c2 : w1.cell? ⟨g2, 0, none⟩ = some (.string ⟨q.toArray⟩) := hrow2.cell 0
  have c3 : w1.cell? ⟨g2, 1, none⟩ = some (.string ⟨y.toArray⟩) := hrow2.cell 1
  have HFew := hide (fun (wz : World) (h : Fls wz A c t) => few_any t A c wz h)
  obtain ⟨N, hN⟩ : ∃ N, N = t.length := ⟨_, rfl⟩
  rw [← hN] at HFew
  rw [← hN]
  have HN := hide hN
  have W1 := hide hw1
  have G1 := hide hgw
  have G2 := hide hg2
  have E_0 := hide (hE)
  have B_0 := hide (Below.refl w.heap.size w)
  have F_0 := hide (hs)
  have E_1 := hide (E_0.out.keep hb1)
  have B_1 := hide (B_0.out.trans (hb1.mono B_0.out.size))
  have F_1 := hide (F_0.out.keep hb1)
  have P_1 := hide (c0)
  have Q_1 := hide (c1)
  have R_1 := hide (c2)
  have S_1 := hide (c3)
  clear hb1 E_0 B_0 F_0 c0 c1 c2 c3 hrow hrow2 hs hE hN hw1 hgw hg2
  go_enter Tryd.func8, Tryd.ntmps8
  go_wp2_with fail
  rw [← W1.out, ← G2.out, ← G1.out]
  refine (wake_any w1 E_1.out).mono ?_
  rintro y w2 ⟨rfl, hb2⟩
  have E_2 := hide (E_1.out.keep hb2)
  have B_2 := hide (B_1.out.trans (hb2.mono B_1.out.size))
  have F_2 := hide (F_1.out.keep hb2)
  have P_2 := hide (agr P_1.out hb2)
  have Q_2 := hide (agr Q_1.out hb2)
  have R_2 := hide (agr R_1.out hb2)
  have S_2 := hide (agr S_1.out hb2)
  clear hb2 E_1 B_1 F_1 P_1 Q_1 R_1 S_1
  go_wp2_with fail
  refine (HFew.out w2 F_2.out).mono ?_
  rintro y w3 ⟨rfl, hb3⟩
  have E_3 := hide (E_2.out.keep hb3)
  have B_3 := hide (B_2.out.trans (hb3.mono B_2.out.size))
  have F_3 := hide (F_2.out.keep hb3)
  have P_3 := hide (agr P_2.out hb3)
  have Q_3 := hide (agr Q_2.out hb3)
  have R_3 := hide (agr R_2.out hb3)
  have S_3 := hide (agr S_2.out hb3)
  clear hb3 E_2 B_2 F_2 P_2 Q_2 R_2 S_2 HFew
  cases hf : fewB t with
  | false =>
    clear hf hg
    go_wp2
    go_ret
    exact ⟨rfl, B_3.out⟩
  | true =>
    have hg := hg.resolve_left (by rw [hf]; decide)
    clear hf
    have d_P := P_3.out
    have d_Q := Q_3.out
    have d_R := R_3.out
    have d_S := S_3.out
    by_cases ha : 40 < p.length + x.length
    · clear hg
      have da1 : decide (40 < (p.length : Int) + (x.length : Int)) = true := decide_eq_true (by omega)
      have da2 : decide (40 < p.length + x.length) = true := decide_eq_true (by omega)
      clear ha
      go_wp2
      go_ret
      exact ⟨rfl, B_3.out⟩
    · have hg := hg.resolve_left ha
      have da1 : decide (40 < (p.length : Int) + (x.length : Int)) = false := decide_eq_false (by omega)
      have da2 : decide (40 < p.length + x.length) = false := decide_eq_false (by omega)
      clear ha
      by_cases hb : 40 < q.length + y.length
      · clear hg
        have db1 : decide (40 < (q.length : Int) + (y.length : Int)) = true := decide_eq_true (by omega)
        have db2 : decide (40 < q.length + y.length) = true := decide_eq_true (by omega)
        clear hb
        go_wp2
        go_ret
        exact ⟨rfl, B_3.out⟩
      · have hg := hg.resolve_left hb
        have db1 : decide (40 < (q.length : Int) + (y.length : Int)) = false := decide_eq_false (by omega)
        have db2 : decide (40 < q.length + y.length) = false := decide_eq_false (by omega)
        have dc1 : decide (300 < (r.length : Int)) = true := decide_eq_true (by omega)
        have dc2 : decide (300 < r.length) = true := decide_eq_true (by omega)
        clear hb hg
        go_wp2
        go_ret
        exact ⟨rfl, B_3.out⟩
set_option maxRecDepth 100000 in
set_option maxHeartbeats 8000000 in
theorem putsNo2 (t : List Fl) (p x q y r : Bs) (A : Option Addr) (c : Nat) (w : World) (hs : Fls w A c t) (hE : Env w) (hm : ∀ f ∈ t, f.path.length ≤ 9223372036854775807 ∧ f.text.length ≤ 9223372036854775807) (hn : t.length ≤ 9223372036854775807) (hp : p.length ≤ 140737488351232) (hx : x.length ≤ 140737488351232) (hq : q.length ≤ 140737488351232) (hy : y.length ≤ 140737488351232) (hr : r.length ≤ 9223372036854775807) (hf : fewB t = true) (hla : p.length + x.length ≤ 40) (hlb : q.length + y.length ≤ 40) (hlc : r.length ≤ 300) (hg : right t = false ∨ can p = false ∨ can q = false ∨ p = q) :
    Calls Tryd.prog 8 #[.slice A t.length c, .agg #[.string ⟨p.toArray⟩, .string ⟨x.toArray⟩], .agg #[.string ⟨q.toArray⟩, .string ⟨y.toArray⟩], .string ⟨r.toArray⟩] w fun y w' => y = .returned (.bool true) ∧ Below w.heap.size w w' := by
  have hrow := (Row.fresh w tF #[.string ⟨p.toArray⟩, .string ⟨x.toArray⟩]).alloc (.cells #[.string ⟨q.toArray⟩, .string ⟨y.toArray⟩] tF)
  have hrow2 := Row.fresh (w.alloc (.cells #[.string ⟨p.toArray⟩, .string ⟨x.toArray⟩] tF)) tF #[.string ⟨q.toArray⟩, .string ⟨y.toArray⟩]
  have hb1 := ((Below.refl w.heap.size w).alloc (Nat.le_refl _) (.cells #[.string ⟨p.toArray⟩, .string ⟨x.toArray⟩] tF)).alloc (by simp) (.cells #[.string ⟨q.toArray⟩, .string ⟨y.toArray⟩] tF)
  rw [World.size_alloc] at hrow2
  obtain ⟨w1, hw1⟩ : ∃ w1, w1 = (w.alloc (.cells #[.string ⟨p.toArray⟩, .string ⟨x.toArray⟩] tF)).alloc (.cells #[.string ⟨q.toArray⟩, .string ⟨y.toArray⟩] tF) := ⟨_, rfl⟩
  obtain ⟨g2, hg2⟩ : ∃ g2, g2 = w.heap.size + 1 := ⟨_, rfl⟩
  obtain ⟨g, hgw⟩ : ∃ g, g = w.heap.size := ⟨_, rfl⟩
  rw [← hw1] at hrow hrow2 hb1
  rw [← hg2] at hrow2
  rw [← hgw] at hrow
  have c0 : w1.cell? ⟨g, 0, none⟩ = some (.string ⟨p.toArray⟩) := hrow.cell 0
  have c1 : w1.cell? ⟨g, 1, none⟩ = some (.string ⟨x.toArray⟩) := hrow.cell 1
  have c2 : w1.cell? ⟨g2, 0, none⟩ = some (.string ⟨q.toArray⟩) := hrow2.cell 0
  have c3 : w1.cell? ⟨g2, 1, none⟩ = some (.string ⟨y.toArray⟩) := hrow2.cell 1
  have HFew := hide (fun (wz : World) (h : Fls wz A c t) => few_any t A c wz h)
  have HRt := hide (fun (wz : World) (h : Fls wz A c t) (hE : Env wz) => tright_any t A c wz h hE.most (fun f hf => (hm f hf).1) hn)
  have HPp := hide (fun (wz : World) (hE : Env wz) => path_any p wz hE.most (by omega))
  have HPq := hide (fun (wz : World) (hE : Env wz) => path_any q wz hE.most (by omega))
  obtain ⟨N, hN⟩ : ∃ N, N = t.length := ⟨_, rfl⟩
  rw [← hN] at HFew HRt
  rw [← hN]
  have HN := hide hN
  have W1 := hide hw1
  have G1 := hide hgw
  have G2 := hide hg2
  rw [hf] at HFew
  generalize right t = rt at *
  generalize can p = cp at *
  generalize can q = cq at *
  have E_0 := hide (hE)
  have B_0 := hide (Below.refl w.heap.size w)
  have F_0 := hide (hs)
  have E_1 := hide (E_0.out.keep hb1)
  have B_1 := hide (B_0.out.trans (hb1.mono B_0.out.size))
  have F_1 := hide (F_0.out.keep hb1)
  have P_1 := hide (c0)
  have Q_1 := hide (c1)
  have R_1 := hide (c2)
  have S_1 := hide (c3)
  clear hb1 E_0 B_0 F_0 c0 c1 c2 c3 hrow hrow2 hs hE hm hn hN hw1 hgw hg2 hf
  go_enter Tryd.func8, Tryd.ntmps8
  go_wp2_with fail
  rw [← W1.out, ← G2.out, ← G1.out]
  refine (wake_any w1 E_1.out).mono ?_
  rintro y w2 ⟨rfl, hb2⟩
  have E_2 := hide (E_1.out.keep hb2)
  have B_2 := hide (B_1.out.trans (hb2.mono B_1.out.size))
  have F_2 := hide (F_1.out.keep hb2)
  have P_2 := hide (agr P_1.out hb2)
  have Q_2 := hide (agr Q_1.out hb2)
  have R_2 := hide (agr R_1.out hb2)
  have S_2 := hide (agr S_1.out hb2)
  clear hb2 E_1 B_1 F_1 P_1 Q_1 R_1 S_1
  go_wp2_with fail
  refine (HFew.out w2 F_2.out).mono ?_
  rintro y w3 ⟨rfl, hb3⟩
  have E_3 := hide (E_2.out.keep hb3)
  have B_3 := hide (B_2.out.trans (hb3.mono B_2.out.size))
  have F_3 := hide (F_2.out.keep hb3)
  have P_3 := hide (agr P_2.out hb3)
  have Q_3 := hide (agr Q_2.out hb3)
  have R_3 := hide (agr R_2.out hb3)
  have S_3 := hide (agr S_2.out hb3)
  clear hb3 E_2 B_2 F_2 P_2 Q_2 R_2 S_2 HFew
  have d_P := P_3.out
  have d_Q := Q_3.out
  have d_R := R_3.out
  have d_S := S_3.out
  have da1 : decide (40 < (p.length : Int) + (x.length : Int)) = false := decide_eq_false (by omega)
  have da2 : decide (40 < p.length + x.length) = false := decide_eq_false (by omega)
  have db1 : decide (40 < (q.length : Int) + (y.length : Int)) = false := decide_eq_false (by omega)
  have db2 : decide (40 < q.length + y.length) = false := decide_eq_false (by omega)
  have dc1 : decide (300 < (r.length : Int)) = false := decide_eq_false (by omega)
  have dc2 : decide (300 < r.length) = false := decide_eq_false (by omega)
  go_wp2_with fail
  refine (HRt.out w3 F_3.out E_3.out).mono ?_
  rintro y w4 ⟨rfl, hb4⟩
  have E_4 := hide (E_3.out.keep hb4)
  have B_4 := hide (B_3.out.trans (hb4.mono B_3.out.size))
  have F_4 := hide (F_3.out.keep hb4)
  have P_4 := hide (agr P_3.out hb4)
  have Q_4 := hide (agr Q_3.out hb4)
  have R_4 := hide (agr R_3.out hb4)
  have S_4 := hide (agr S_3.out hb4)
  clear hb4 E_3 B_3 F_3 P_3 Q_3 R_3 S_3 HRt d_P d_Q d_R d_S da1 da2 db1 db2 dc1 dc2 hla hlb hlc
  have d_P := P_4.out
  go_wp2_with fail
  refine (HPp.out w4 E_4.out).mono ?_
  rintro y w5 ⟨rfl, hb5⟩
  have E_5 := hide (E_4.out.keep hb5)
  have B_5 := hide (B_4.out.trans (hb5.mono B_4.out.size))
  have F_5 := hide (F_4.out.keep hb5)
  have P_5 := hide (agr P_4.out hb5)
  have Q_5 := hide (agr Q_4.out hb5)
  have R_5 := hide (agr R_4.out hb5)
  have S_5 := hide (agr S_4.out hb5)
  clear hb5 E_4 B_4 F_4 P_4 Q_4 R_4 S_4 HPp d_P
  have d_R := R_5.out
  go_wp2_with fail
  refine (HPq.out w5 E_5.out).mono ?_
  rintro y w6 ⟨rfl, hb6⟩
  have E_6 := hide (E_5.out.keep hb6)
  have B_6 := hide (B_5.out.trans (hb6.mono B_5.out.size))
  have F_6 := hide (F_5.out.keep hb6)
  have P_6 := hide (agr P_5.out hb6)
  have Q_6 := hide (agr Q_5.out hb6)
  have R_6 := hide (agr R_5.out hb6)
  have S_6 := hide (agr S_5.out hb6)
  clear hb6 E_5 B_5 F_5 P_5 Q_5 R_5 S_5 HPq d_R
  cases rt with
  | false =>
    clear hg
    go_wp2
    go_ret
    exact ⟨rfl, B_6.out⟩
  | true =>
    cases cp with
    | false =>
      clear hg
      go_wp2
      go_ret
      exact ⟨rfl, B_6.out⟩
    | true =>
      cases cq with
      | false =>
        clear hg
        go_wp2
        go_ret
        exact ⟨rfl, B_6.out⟩
      | true =>
        have hpq : p = q := by simpa using hg
        have k1 : (p == q) = true := by rw [beq_iff_eq]; exact hpq
        clear hg hpq
        have d_P := P_6.out
        have d_R := R_6.out
        go_wp2
        go_ret
        exact ⟨rfl, B_6.out⟩
end Go.Proofs.YtlplgkdoiinfhaaDoor.Tr
namespace Go.Proofs.YtlplgkdoiinfhaaDoor.Tr
open Go Go.RowKit Kt Lw Li Lx Df Wr

set_option maxRecDepth 100000 in
set_option maxHeartbeats 8000000 in
theorem putsYes (t : List Fl) (p x q y r : Bs) (A : Option Addr) (c : Nat) (w : World) (hs : Fls w A c t) (hE : Env w) (hm : ∀ f ∈ t, f.path.length ≤ 9223372036854775807 ∧ f.text.length ≤ 9223372036854775807) (hn : t.length ≤ 9223372036854775807) (hp : p.length ≤ 140737488351232) (hx : x.length ≤ 140737488351232) (hq : q.length ≤ 140737488351232) (hy : y.length ≤ 140737488351232) (hr : r.length ≤ 9223372036854775807) (hf : fewB t = true) (hla : p.length + x.length ≤ 40) (hlb : q.length + y.length ≤ 40) (hlc : r.length ≤ 300) (hrt : right t = true) (hcp : can p = true) (hcq : can q = true) (hpq : ¬ p = q)
    (bb : Bool) (hbb : (r == p) = bb) (hsame : bb = true ∨ get t r = get (ins ⟨p, x⟩ (drop t p)) r) :
    Calls Tryd.prog 8 #[.slice A t.length c, .agg #[.string ⟨p.toArray⟩, .string ⟨x.toArray⟩], .agg #[.string ⟨q.toArray⟩, .string ⟨y.toArray⟩], .string ⟨r.toArray⟩] w fun y w' => y = .returned (.bool true) ∧ Below w.heap.size w w' := by
  have hrow := (Row.fresh w tF #[.string ⟨p.toArray⟩, .string ⟨x.toArray⟩]).alloc (.cells #[.string ⟨q.toArray⟩, .string ⟨y.toArray⟩] tF)
  have hrow2 := Row.fresh (w.alloc (.cells #[.string ⟨p.toArray⟩, .string ⟨x.toArray⟩] tF)) tF #[.string ⟨q.toArray⟩, .string ⟨y.toArray⟩]
  have hb1 := ((Below.refl w.heap.size w).alloc (Nat.le_refl _) (.cells #[.string ⟨p.toArray⟩, .string ⟨x.toArray⟩] tF)).alloc (by simp) (.cells #[.string ⟨q.toArray⟩, .string ⟨y.toArray⟩] tF)
  rw [World.size_alloc] at hrow2
  obtain ⟨w1, hw1⟩ : ∃ w1, w1 = (w.alloc (.cells #[.string ⟨p.toArray⟩, .string ⟨x.toArray⟩] tF)).alloc (.cells #[.string ⟨q.toArray⟩, .string ⟨y.toArray⟩] tF) := ⟨_, rfl⟩
  obtain ⟨g2, hg2'⟩ : ∃ g2, g2 = w.heap.size + 1 := ⟨_, rfl⟩
  obtain ⟨g, hgw⟩ : ∃ g, g = w.heap.size := ⟨_, rfl⟩
  rw [← hw1] at hrow hrow2 hb1
  rw [← hg2'] at hrow2
  rw [← hgw] at hrow
  have c0 : w1.cell? ⟨g, 0, none⟩ = some (.string ⟨p.toArray⟩) := hrow.cell 0
  have c1 : w1.cell? ⟨g, 1, none⟩ = some (.string ⟨x.toArray⟩) := hrow.cell 1
  have c2 : w1.cell? ⟨g2, 0, none⟩ = some (.string ⟨q.toArray⟩) := hrow2.cell 0
  have c3 : w1.cell? ⟨g2, 1, none⟩ = some (.string ⟨y.toArray⟩) := hrow2.cell 1
  have HFew := hide (fun (wz : World) (h : Fls wz A c t) => few_any t A c wz h)
  have HRt := hide (fun (wz : World) (h : Fls wz A c t) (hE : Env wz) => tright_any t A c wz h hE.most (fun f hf => (hm f hf).1) hn)
  have HPp := hide (fun (wz : World) (hE : Env wz) => path_any p wz hE.most (by omega))
  have HPq := hide (fun (wz : World) (hE : Env wz) => path_any q wz hE.most (by omega))
  have hl12 := (few_is hf).1
  obtain ⟨e1, e2, e3, e4, e5, e6, _, e7, e8, e9⟩ := puts_any (t := t) (f := ⟨p, x⟩) (g := ⟨q, y⟩) r hrt hl12 hcp hcq (show x.length ≤ 65536 by omega) (show y.length ≤ 65536 by omega) hpq
  have hgo := (right_go hrt).1
  have hgx := go_put (f := ⟨p, x⟩) hgo hcp (show x.length ≤ 65536 by omega)
  have hgy := go_put (f := ⟨q, y⟩) hgo hcq (show y.length ≤ 65536 by omega)
  have hdl := drop_le t p
  have hdl2 := drop_le t q
  have hlx := put_len t ⟨p, x⟩
  have hly := put_len t ⟨q, y⟩
  simp only at e1 e2 e3 e4 e5 e6 e7 e8 e9 hgx hgy hlx hly
  obtain ⟨D, hD⟩ : ∃ D, D = drop t p := ⟨_, rfl⟩
  have hgd := go_drop p hgo
  rw [← hD] at e1 e2 e4 e5 e6 e7 e8 e9 hgx hlx hgd hdl hsame
  obtain ⟨X, hX⟩ : ∃ X, X = ins ⟨p, x⟩ D := ⟨_, rfl⟩
  rw [← hX] at e1 e2 e4 e5 e6 e7 e8 hgx hlx hsame
  obtain ⟨Y, hY⟩ : ∃ Y, Y = ins ⟨q, y⟩ (drop t q) := ⟨_, rfl⟩
  rw [← hY] at e3 e4 hgy hly
  obtain ⟨Z, hZ⟩ : ∃ Z, Z = ins ⟨q, y⟩ (drop X q) := ⟨_, rfl⟩
  have hlz := put_len X ⟨q, y⟩
  simp only at hlz
  rw [← hZ] at e2 e4 e5 e6 hlz
  obtain ⟨u1, b1, hg1⟩ : ∃ u1 b1, get t r = (u1, b1) := ⟨_, _, rfl⟩
  obtain ⟨u2, b2, hg2⟩ : ∃ u2 b2, get X r = (u2, b2) := ⟨_, _, rfl⟩
  rw [hg1, hg2] at hsame
  have hP1 := fun (wz : World) (h : Fls wz A c t) (hE : Env wz) => tput_any t ⟨p, x⟩ A c wz h hE.most (by omega) (show p.length ≤ _ by omega) hgo
  have hP2 := fun (wz : World) A1 c1 (h : Fls wz A1 c1 X) (hE : Env wz) => tput_any X ⟨q, y⟩ A1 c1 wz h hE.most (by omega) (show q.length ≤ _ by omega) hgx
  have hP3 := fun (wz : World) (h : Fls wz A c t) (hE : Env wz) => tput_any t ⟨q, y⟩ A c wz h hE.most (by omega) (show q.length ≤ _ by omega) hgo
  have hP4 := fun (wz : World) A1 c1 (h : Fls wz A1 c1 Y) (hE : Env wz) => tput_any Y ⟨p, x⟩ A1 c1 wz h hE.most (by omega) (show p.length ≤ _ by omega) hgy
  rw [e1] at hP1
  rw [e2] at hP2
  rw [e3] at hP3
  rw [e4] at hP4
  have HS := hide (fun (wz : World) A1 A2 c1 c2 (h1 : Fls wz A1 c1 Z) (h2 : Fls wz A2 c2 Z) => same_any Z Z A1 A2 c1 c2 wz h1 h2 (by omega))
  have hRz := fun (wz : World) A1 c1 (h1 : Fls wz A1 c1 Z) (hE : Env wz) => tright_any Z A1 c1 wz h1 hE.most (fun f hf => by have := (right_short e5 f hf).1; omega) (by omega)
  rw [e5] at hRz
  have hG1 := fun (wz : World) A1 c1 (h1 : Fls wz A1 c1 Z) => tget_any Z p A1 c1 wz h1 (by omega) (right_go e5).1
  have hG2 := fun (wz : World) (h1 : Fls wz A c t) => tget_any t r A c wz h1 (by omega) hgo
  have hG3 := fun (wz : World) A1 c1 (h1 : Fls wz A1 c1 X) => tget_any X r A1 c1 wz h1 (by omega) hgx
  have hD1 := fun (wz : World) A1 c1 (h1 : Fls wz A1 c1 X) => tdrop_any X p A1 c1 wz h1 (by omega) hgx
  have hG4 := fun (wz : World) A1 c1 (h1 : Fls wz A1 c1 D) => tget_any D p A1 c1 wz h1 (by omega) hgd
  rw [e6] at hG1
  rw [hg1] at hG2
  rw [hg2] at hG3
  rw [e7, decide_eq_true (show D.length < X.length by omega)] at hD1
  rw [e9] at hG4
  have hwr : IntKind.i64.wrap ((X.length : Int) - 1) = (D.length : Int) := by rw [IntWalk.i64_in _ (by omega)]; omega
  have hX3 : (D.length : Int) = (X.length : Int) - 1 := by omega
  obtain ⟨N, hN⟩ : ∃ N, N = t.length := ⟨_, rfl⟩
  rw [← hN] at HFew HRt hP1 hP3 hG2 ⊢
  rw [hf] at HFew
  rw [hrt] at HRt
  rw [hcp] at HPp
  rw [hcq] at HPq
  have P1 := hide hP1
  have P2 := hide hP2
  have P3 := hide hP3
  have P4 := hide hP4
  have Rz := hide hRz
  have K1 := hide hG1
  have K2 := hide hG2
  have K3 := hide hG3
  have K4 := hide hG4
  have L1 := hide hD1
  have Hwr := hide hwr
  have HX3 := hide hX3
  have Hbb := hide hbb
  have Hsame := hide hsame
  have Hpq := hide hpq
  have W1 := hide hw1
  have G1 := hide hgw
  have G2 := hide hg2'
  have E_0 := hide (hE)
  have B_0 := hide (Below.refl w.heap.size w)
  have F_0 := hide (hs)
  have E_1 := hide (E_0.out.keep hb1)
  have B_1 := hide (B_0.out.trans (hb1.mono B_0.out.size))
  have F_1 := hide (F_0.out.keep hb1)
  have P_1 := hide (c0)
  have Q_1 := hide (c1)
  have R_1 := hide (c2)
  have S_1 := hide (c3)
  clear hb1 E_0 B_0 F_0 c0 c1 c2 c3 hrow hrow2 hs hE hm hn hN hw1 hgw hg2'
  clear e1 e2 e3 e4 e5 e6 e7 e8 e9 hgo hgx hgy hgd hdl hdl2 hlx hly hlz hD hX hY hZ hg1 hg2 hP1 hP2 hP3 hP4 hRz hG1 hG2 hG3 hG4 hD1 hwr hX3 hf hrt hcp hcq hpq hbb hsame hl12
  go_enter Tryd.func8, Tryd.ntmps8
  go_wp2_with fail
  rw [← W1.out, ← G2.out, ← G1.out]
  refine (wake_any w1 E_1.out).mono ?_
  rintro y w2 ⟨rfl, hb2⟩
  have E_2 := hide (E_1.out.keep hb2)
  have B_2 := hide (B_1.out.trans (hb2.mono B_1.out.size))
  have F_2 := hide (F_1.out.keep hb2)
  have P_2 := hide (agr P_1.out hb2)
  have Q_2 := hide (agr Q_1.out hb2)
  have R_2 := hide (agr R_1.out hb2)
  have S_2 := hide (agr S_1.out hb2)
  clear hb2 E_1 B_1 F_1 P_1 Q_1 R_1 S_1
  go_wp2_with fail
  refine (HFew.out w2 F_2.out).mono ?_
  rintro y w3 ⟨rfl, hb3⟩
  have E_3 := hide (E_2.out.keep hb3)
  have B_3 := hide (B_2.out.trans (hb3.mono B_2.out.size))
  have F_3 := hide (F_2.out.keep hb3)
  have P_3 := hide (agr P_2.out hb3)
  have Q_3 := hide (agr Q_2.out hb3)
  have R_3 := hide (agr R_2.out hb3)
  have S_3 := hide (agr S_2.out hb3)
  clear hb3 E_2 B_2 F_2 P_2 Q_2 R_2 S_2 HFew
  have d_P := P_3.out
  have d_Q := Q_3.out
  have d_R := R_3.out
  have d_S := S_3.out
  have da1 : decide (40 < (p.length : Int) + (x.length : Int)) = false := decide_eq_false (by omega)
  have da2 : decide (40 < p.length + x.length) = false := decide_eq_false (by omega)
  have db1 : decide (40 < (q.length : Int) + (y.length : Int)) = false := decide_eq_false (by omega)
  have db2 : decide (40 < q.length + y.length) = false := decide_eq_false (by omega)
  have dc1 : decide (300 < (r.length : Int)) = false := decide_eq_false (by omega)
  have dc2 : decide (300 < r.length) = false := decide_eq_false (by omega)
  go_wp2_with fail
  refine (HRt.out w3 F_3.out E_3.out).mono ?_
  rintro y w4 ⟨rfl, hb4⟩
  have E_4 := hide (E_3.out.keep hb4)
  have B_4 := hide (B_3.out.trans (hb4.mono B_3.out.size))
  have F_4 := hide (F_3.out.keep hb4)
  have P_4 := hide (agr P_3.out hb4)
  have Q_4 := hide (agr Q_3.out hb4)
  have R_4 := hide (agr R_3.out hb4)
  have S_4 := hide (agr S_3.out hb4)
  clear hb4 E_3 B_3 F_3 P_3 Q_3 R_3 S_3 HRt d_P d_Q d_R d_S da1 da2 db1 db2 dc1 dc2 hla hlb hlc
  have d_P := P_4.out
  go_wp2_with fail
  refine (HPp.out w4 E_4.out).mono ?_
  rintro y w5 ⟨rfl, hb5⟩
  have E_5 := hide (E_4.out.keep hb5)
  have B_5 := hide (B_4.out.trans (hb5.mono B_4.out.size))
  have F_5 := hide (F_4.out.keep hb5)
  have P_5 := hide (agr P_4.out hb5)
  have Q_5 := hide (agr Q_4.out hb5)
  have R_5 := hide (agr R_4.out hb5)
  have S_5 := hide (agr S_4.out hb5)
  clear hb5 E_4 B_4 F_4 P_4 Q_4 R_4 S_4 HPp d_P
  have d_R := R_5.out
  go_wp2_with fail
  refine (HPq.out w5 E_5.out).mono ?_
  rintro y w6 ⟨rfl, hb6⟩
  have E_6 := hide (E_5.out.keep hb6)
  have B_6 := hide (B_5.out.trans (hb6.mono B_5.out.size))
  have F_6 := hide (F_5.out.keep hb6)
  have P_6 := hide (agr P_5.out hb6)
  have Q_6 := hide (agr Q_5.out hb6)
  have R_6 := hide (agr R_5.out hb6)
  have S_6 := hide (agr S_5.out hb6)
  clear hb6 E_5 B_5 F_5 P_5 Q_5 R_5 S_5 HPq d_R
  have d_P := P_6.out
  have d_Q := Q_6.out
  have d_R := R_6.out
  have d_S := S_6.out
  have kpq : (p == q) = false := by rw [beq_eq_false_iff_ne]; exact Hpq.out
  have kpq2 : ¬ p = q := Hpq.out
  go_wp2_with fail
  refine (P1.out w6 F_6.out E_6.out).mono ?_
  rintro y w7 ⟨va, rfl, howna, hb7⟩
  obtain ⟨Aa, ca, rfl, hsa⟩ := howna.fls
  have E_7 := hide (E_6.out.keep hb7)
  have B_7 := hide (B_6.out.trans (hb7.mono B_6.out.size))
  have F_7 := hide (F_6.out.keep hb7)
  have P_7 := hide (agr P_6.out hb7)
  have Q_7 := hide (agr Q_6.out hb7)
  have R_7 := hide (agr R_6.out hb7)
  have S_7 := hide (agr S_6.out hb7)
  have X_7 := hide (hsa)
  clear hb7 E_6 B_6 F_6 P_6 Q_6 R_6 S_6 howna hsa P1 kpq kpq2 d_P d_Q d_R d_S
  have d_R := R_7.out
  have d_S := S_7.out
  go_wp2_with fail
  refine (P2.out w7 Aa ca X_7.out E_7.out).mono ?_
  rintro y w8 ⟨vb, rfl, hownb, hb8⟩
  obtain ⟨Ab, cb, rfl, hsb⟩ := hownb.fls
  have E_8 := hide (E_7.out.keep hb8)
  have B_8 := hide (B_7.out.trans (hb8.mono B_7.out.size))
  have F_8 := hide (F_7.out.keep hb8)
  have P_8 := hide (agr P_7.out hb8)
  have Q_8 := hide (agr Q_7.out hb8)
  have R_8 := hide (agr R_7.out hb8)
  have S_8 := hide (agr S_7.out hb8)
  have X_8 := hide (X_7.out.keep hb8)
  have Z_8 := hide (hsb)
  clear hb8 E_7 B_7 F_7 P_7 Q_7 R_7 S_7 X_7 hownb hsb P2 d_R d_S
  have d_R := R_8.out
  have d_S := S_8.out
  go_wp2_with fail
  refine (P3.out w8 F_8.out E_8.out).mono ?_
  rintro y w9 ⟨vc, rfl, hownc, hb9⟩
  obtain ⟨Ac, cc, rfl, hsc⟩ := hownc.fls
  have E_9 := hide (E_8.out.keep hb9)
  have B_9 := hide (B_8.out.trans (hb9.mono B_8.out.size))
  have F_9 := hide (F_8.out.keep hb9)
  have P_9 := hide (agr P_8.out hb9)
  have Q_9 := hide (agr Q_8.out hb9)
  have R_9 := hide (agr R_8.out hb9)
  have S_9 := hide (agr S_8.out hb9)
  have X_9 := hide (X_8.out.keep hb9)
  have Z_9 := hide (Z_8.out.keep hb9)
  have Y_9 := hide (hsc)
  clear hb9 E_8 B_8 F_8 P_8 Q_8 R_8 S_8 X_8 Z_8 hownc hsc P3 d_R d_S
  have d_P := P_9.out
  have d_Q := Q_9.out
  go_wp2_with fail
  refine (P4.out w9 Ac cc Y_9.out E_9.out).mono ?_
  rintro y w10 ⟨vd, rfl, hownd, hb10⟩
  obtain ⟨Ad, cd, rfl, hsd⟩ := hownd.fls
  have E_10 := hide (E_9.out.keep hb10)
  have B_10 := hide (B_9.out.trans (hb10.mono B_9.out.size))
  have F_10 := hide (F_9.out.keep hb10)
  have P_10 := hide (agr P_9.out hb10)
  have Q_10 := hide (agr Q_9.out hb10)
  have X_10 := hide (X_9.out.keep hb10)
  have Z_10 := hide (Z_9.out.keep hb10)
  have V_10 := hide (hsd)
  clear hb10 E_9 B_9 F_9 P_9 Q_9 R_9 S_9 X_9 Z_9 Y_9 hownd hsd P4 d_P d_Q
  go_wp2_with fail
  refine (HS.out w10 Ab Ad cb cd Z_10.out V_10.out).mono ?_
  rintro y w11 ⟨rfl, hb11⟩
  have E_11 := hide (E_10.out.keep hb11)
  have B_11 := hide (B_10.out.trans (hb11.mono B_10.out.size))
  have F_11 := hide (F_10.out.keep hb11)
  have P_11 := hide (agr P_10.out hb11)
  have Q_11 := hide (agr Q_10.out hb11)
  have X_11 := hide (X_10.out.keep hb11)
  have Z_11 := hide (Z_10.out.keep hb11)
  clear hb11 E_10 B_10 F_10 P_10 Q_10 X_10 Z_10 V_10 HS
  go_wp2_with fail
  refine (Rz.out w11 Ab cb Z_11.out E_11.out).mono ?_
  rintro y w12 ⟨rfl, hb12⟩
  have E_12 := hide (E_11.out.keep hb12)
  have B_12 := hide (B_11.out.trans (hb12.mono B_11.out.size))
  have F_12 := hide (F_11.out.keep hb12)
  have P_12 := hide (agr P_11.out hb12)
  have Q_12 := hide (agr Q_11.out hb12)
  have X_12 := hide (X_11.out.keep hb12)
  have Z_12 := hide (Z_11.out.keep hb12)
  clear hb12 E_11 B_11 F_11 P_11 Q_11 X_11 Z_11 Rz
  have d_P := P_12.out
  go_wp2_with fail
  refine (K1.out w12 Ab cb Z_12.out).mono ?_
  rintro y w13 ⟨rfl, hb13⟩
  have E_13 := hide (E_12.out.keep hb13)
  have B_13 := hide (B_12.out.trans (hb13.mono B_12.out.size))
  have F_13 := hide (F_12.out.keep hb13)
  have P_13 := hide (agr P_12.out hb13)
  have Q_13 := hide (agr Q_12.out hb13)
  have X_13 := hide (X_12.out.keep hb13)
  clear hb13 E_12 B_12 F_12 P_12 Q_12 X_12 Z_12 K1 d_P
  go_wp2_with fail
  refine (K2.out w13 F_13.out).mono ?_
  rintro y w14 ⟨rfl, hb14⟩
  have E_14 := hide (E_13.out.keep hb14)
  have B_14 := hide (B_13.out.trans (hb14.mono B_13.out.size))
  have F_14 := hide (F_13.out.keep hb14)
  have P_14 := hide (agr P_13.out hb14)
  have Q_14 := hide (agr Q_13.out hb14)
  have X_14 := hide (X_13.out.keep hb14)
  clear hb14 E_13 B_13 F_13 P_13 Q_13 X_13 K2
  go_wp2_with fail
  refine (K3.out w14 Aa ca X_14.out).mono ?_
  rintro y w15 ⟨rfl, hb15⟩
  have E_15 := hide (E_14.out.keep hb15)
  have B_15 := hide (B_14.out.trans (hb15.mono B_14.out.size))
  have F_15 := hide (F_14.out.keep hb15)
  have P_15 := hide (agr P_14.out hb15)
  have Q_15 := hide (agr Q_14.out hb15)
  have X_15 := hide (X_14.out.keep hb15)
  clear hb15 E_14 B_14 F_14 P_14 Q_14 X_14 K3
  have d_P := P_15.out
  go_wp2_with fail
  refine (L1.out w15 Aa ca X_15.out).mono ?_
  rintro y w16 ⟨ve, rfl, howne, hb16⟩
  obtain ⟨Ae, ce, rfl, hse⟩ := howne.fls
  have E_16 := hide (E_15.out.keep hb16)
  have B_16 := hide (B_15.out.trans (hb16.mono B_15.out.size))
  have F_16 := hide (F_15.out.keep hb16)
  have P_16 := hide (agr P_15.out hb16)
  have Q_16 := hide (agr Q_15.out hb16)
  have U_16 := hide (hse)
  clear hb16 E_15 B_15 F_15 P_15 Q_15 X_15 howne hse L1 d_P
  have d_P := P_16.out
  go_wp2_with fail
  refine (K4.out w16 Ae ce U_16.out).mono ?_
  rintro y w17 ⟨rfl, hb17⟩
  have E_17 := hide (E_16.out.keep hb17)
  have B_17 := hide (B_16.out.trans (hb17.mono B_16.out.size))
  have F_17 := hide (F_16.out.keep hb17)
  have P_17 := hide (agr P_16.out hb17)
  have Q_17 := hide (agr Q_16.out hb17)
  clear hb17 E_16 B_16 F_16 P_16 Q_16 U_16 K4 d_P
  have d_P := P_17.out
  have d_Q := Q_17.out
  have hwr := Hwr.out
  have hX3 := HX3.out
  have hsame := Hsame.out
  have hbb := Hbb.out
  obtain ⟨nX, hnX⟩ : ∃ nX, nX = X.length := ⟨_, rfl⟩
  obtain ⟨nD, hnD⟩ : ∃ nD, nD = D.length := ⟨_, rfl⟩
  rw [← hnX, ← hnD] at hwr hX3
  rw [← hnX, ← hnD]
  clear hnX hnD Hwr HX3 Hsame Hbb
  have keq : ((nD : Int) == (nX : Int) - 1) = true := by rw [beq_iff_eq]; exact hX3
  have keq2 : ((nD : Int) == (nD : Int)) = true := by simp
  cases bb with
  | true =>
    have k2 : r = p := by simpa using hbb
    clear hX3 hsame k2
    go_wp2
    go_ret
    exact ⟨by simp, B_17.out⟩
  | false =>
    have k2 : ¬ r = p := by simpa using hbb
    have hs2 : u1 = u2 ∧ b1 = b2 := by simpa using hsame
    obtain ⟨rfl, rfl⟩ := hs2
    clear hX3 hsame
    go_wp2
    go_ret
    exact ⟨by simp, B_17.out⟩
end Go.Proofs.YtlplgkdoiinfhaaDoor.Tr
namespace Go.Proofs.YtlplgkdoiinfhaaDoor.Tr
open Go Go.RowKit Kt Lw Li Lx Df Wr

theorem lawPuts_any (t : List Fl) (f g : Fl) (r : Bs) (A : Option Addr) (c : Nat) (w : World) (hs : Fls w A c t) (hE : Env w) (hm : ∀ f ∈ t, f.path.length ≤ 9223372036854775807 ∧ f.text.length ≤ 9223372036854775807) (hn : t.length ≤ 9223372036854775807) (hf : f.path.length ≤ 140737488351232 ∧ f.text.length ≤ 140737488351232) (hg : g.path.length ≤ 140737488351232 ∧ g.text.length ≤ 140737488351232) (hr : r.length ≤ 9223372036854775807) :
    Calls Tryd.prog 8 #[.slice A t.length c, .agg #[.string ⟨f.path.toArray⟩, .string ⟨f.text.toArray⟩], .agg #[.string ⟨g.path.toArray⟩, .string ⟨g.text.toArray⟩], .string ⟨r.toArray⟩] w fun y w' => y = .returned (.bool true) ∧ Below w.heap.size w w' := by
  obtain ⟨p, x⟩ := f
  obtain ⟨q, y⟩ := g
  simp only at hf hg
  by_cases h1 : fewB t = false ∨ 40 < p.length + x.length ∨ 40 < q.length + y.length ∨ 300 < r.length
  · exact putsNo1 t p x q y r A c w hs hE hm hn hf.1 hf.2 hg.1 hg.2 hr h1
  · simp only [not_or, Bool.not_eq_false] at h1
    obtain ⟨k1, k2, k3, k4⟩ := h1
    by_cases h2 : right t = false ∨ can p = false ∨ can q = false ∨ p = q
    · exact putsNo2 t p x q y r A c w hs hE hm hn hf.1 hf.2 hg.1 hg.2 hr k1 (by omega) (by omega) (by omega) h2
    · simp only [not_or, Bool.not_eq_false] at h2
      obtain ⟨j1, j2, j3, j4⟩ := h2
      refine putsYes t p x q y r A c w hs hE hm hn hf.1 hf.2 hg.1 hg.2 hr k1 (by omega) (by omega) (by omega) j1 j2 j3 j4 _ rfl ?_
      have := (puts_any (t := t) (f := ⟨p, x⟩) (g := ⟨q, y⟩) r j1 (few_is k1).1 j2 j3 (show x.length ≤ 65536 by omega) (show y.length ≤ 65536 by omega) j4).same
      rcases this with h | h
      · left; rw [beq_iff_eq]; exact h
      · exact .inr h
end Go.Proofs.YtlplgkdoiinfhaaDoor.Tr
