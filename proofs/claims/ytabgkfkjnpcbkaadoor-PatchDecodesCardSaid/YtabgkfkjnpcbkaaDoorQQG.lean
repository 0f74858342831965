/-
  patches: the chapter's example.
-/
import Derived.BigQuiet
import Derived.Test.YtabgkfkjnpcbkaaDoorPW
import Derived.Test.YtabgkfkjnpcbkaaDoorPX
import Derived.Test.YtabgkfkjnpcbkaaDoorPY
import Derived.Test.YtabgkfkjnpcbkaaDoorQPB
import Derived.Test.YtabgkfkjnpcbkaaDoorQTH
import Derived.Test.YtabgkfkjnpcbkaaDoorRfE
import Derived.Test.YtabgkfkjnpcbkaaDoorQTM
import Derived.Test.YtabgkfkjnpcbkaaDoorTF
import Derived.Test.YtabgkfkjnpcbkaaDoorQTW
import Derived.Test.YtabgkfkjnpcbkaaDoorQRrC
import Derived.Test.YtabgkfkjnpcbkaaDoorLaw
import Derived.Test.YtabgkfkjnpcbkaaDoorRows
import Derived.LaidSub
import Derived.Shelf.Vars
import Derived.Lib.LaidTab
namespace Go.Proofs.YtabgkfkjnpcbkaaDoor.Tr
open Go Go.RowKit Kt Lw Li Lx Df Wr

def x0 : Bs := [0, 0, 0, 0]
def x1 : Bs := [0, 1, 97, 0, 0]
def xf : Fl := ⟨[97], [98]⟩
def xc : Ch := ⟨[97], false, [98]⟩
def xg : Ch := ⟨[97], true, []⟩
theorem a_enc : pencode noPch = (x0, 0) := by decide +kernel
theorem a_right : pright noPch = true := by decide +kernel
theorem a_form : pform noPch = x0 := by decide +kernel
theorem a_name : pname noPch = Sha.sha x0 := by unfold pname; rw [if_pos a_right, a_form]
theorem a_dec : pdecode x1 = (⟨[], [97], [], []⟩, 0) := by decide +kernel
theorem a_play : play [] [xc] = [xf] := by decide +kernel
theorem a_betw : betw [xf] [] = [xg] := by decide +kernel
theorem a_go : go none [xf] = true := by decide +kernel
theorem a_cgo : cgo none [xc] = true := by decide +kernel
theorem lit_u8 (w : World) (l : Bs) (cs : Array Value) (h : cs.toList = u8s l) : Sl (w.alloc (.cells cs 5)) (fun _ => True) (some ⟨w.heap.size, 0, none⟩) l.length l :=
  ⟨Nat.le_refl _, fun _ => ⟨w.heap.size, 0, rfl, trivial, fun j hj => by
    rw [Nat.zero_add, (Row.fresh w _ _).cell, h, u8s_get _ _ hj]⟩⟩
theorem lit_ch (w : World) (c : Ch) : Chs (w.alloc (.cells #[.string ⟨c.path.toArray⟩, .bool c.gone, .string ⟨c.text.toArray⟩] tC)) (some ⟨w.heap.size, 0, none⟩) 1 [c] :=
  ⟨Nat.le_refl _, fun _ => ⟨w.heap.size, 0, rfl, (Row.fresh w tC _).lt, fun j r hj k u hk => by
    have hrow := Row.fresh w tC #[.string ⟨c.path.toArray⟩, .bool c.gone, .string ⟨c.text.toArray⟩]
    rcases j with _ | j
    · simp only [List.getElem?_cons_zero, Option.some.injEq] at hj
      subst hj
      rw [hrow.cell]
      simp only [Nat.mul_zero, Nat.zero_add]
      exact hk
    · simp at hj⟩⟩
theorem lit_fl (w : World) (f : Fl) : Fls (w.alloc (.cells #[.string ⟨f.path.toArray⟩, .string ⟨f.text.toArray⟩] tF)) (some ⟨w.heap.size, 0, none⟩) 1 [f] := by
  obtain ⟨A, c, e, h⟩ := IsF.one w f
  cases e
  exact h
theorem pin_none (w : World) : PIn w noPch none none 0 0 := ⟨⟨Nat.zero_le _, fun h => by simp [texts] at h⟩, Chs.nil _ _ _, fun q hq => (by cases hq), fun f hf => (by cases hf), by decide, by decide, by decide, by decide⟩
set_option maxRecDepth 100000 in
set_option maxHeartbeats 8000000 in
theorem pwake_any (w : World) (hE : Env w) : Calls Tryd.prog 10 #[] w fun y w' => y = .returned (.bool true) ∧ Below w.heap.size w w' := by
  have HE := hide hE
  have HEn := hide (fun (wz : World) (hE : Env wz) => show Calls Tryd.prog 12 #[.agg #[.slice none 0 0, .string ⟨#[]⟩, .string ⟨#[]⟩, .slice none 0 0]] wz _ from by
    have := pencode_any noPch none none 0 0 wz (pin_none wz) hE.most
    rw [a_enc] at this
    exact this)
  have HD := hide (fun (wz : World) A (hs : Sl wz (fun _ => True) A 5 x1) (hE : Env wz) => by
    have := pdecode_any x1 A 5 _ wz hs hE.most (by decide)
    rw [a_dec] at this
    exact this)
  have HPl := hide (fun (wz : World) A (hs : Chs wz A 1 [xc]) (hE : Env wz) => by
    have := play_call [] [xc] none A 0 1 wz (Fls.nil _ _ _) hs hE.most rfl a_cgo (by decide)
    rw [a_play] at this
    exact this)
  have HBt := hide (fun (wz : World) A c (hs : Fls wz A c [xf]) => by
    have := between_call [xf] [] A none c 0 wz hs (Fls.nil _ _ _) a_go rfl (by decide +kernel)
    rw [a_betw] at this
    exact this)
  have HBy := hide (fun (wz : World) A A' c c' (hs : Sl wz (fun _ => True) A c x0) (hs' : Sl wz (fun _ => True) A' c' x0) => bytes_any x0 x0 A A' c c' _ _ wz hs hs' (by decide))
  have HSm := hide (fun (wz : World) A A' c c' (hs : Fls wz A c [xf]) (hs' : Fls wz A' c' [xf]) => same_any [xf] [xf] A A' c c' wz hs hs' (by decide))
  have HCg := hide (fun (wz : World) A A' c c' (hs : Chs wz A c [xg]) (hs' : Chs wz A' c' [xg]) => changes_any [xg] [xg] A A' c c' wz hs hs' (by decide))
  have HNm := hide (fun (wz : World) (hE : Env wz) => show Calls Tryd.prog 17 #[.agg #[.slice none 0 0, .string ⟨#[]⟩, .string ⟨#[]⟩, .slice none 0 0]] wz _ from by
    have := pname_any noPch none none 0 0 wz (pin_none wz) hE.most hE.tab
    rw [a_name] at this
    exact this)
  have HOf := hide (fun (wz : World) A c (hs : Sl wz (fun _ => True) A c x0) (hE : Env wz) => Dg.rof_any x0 A c _ wz hs (by decide) hE.tabR)
  generalize hsh : Sha.sha x0 = sh at HNm HOf
  clear hsh hE
  go_enter Tryd.func10, Tryd.ntmps10
  have E_0 := hide (HE.out)
  have B_0 := hide (Below.refl w.heap.size w)
  go_wp2_with fail
  refine (HEn.out w E_0.out).mono ?_
  rintro y w1 ⟨v1, rfl, hown1, hb1⟩
  obtain ⟨A1, c1, rfl, hs1⟩ := hown1.sl
  have E_1 := hide (E_0.out.keep hb1)
  have B_1 := hide (B_0.out.trans (hb1.mono B_0.out.size))
  have S_1 := hide (hs1.imp (Q := fun _ => True) fun _ _ _ => trivial)
  clear hb1 E_0 B_0 hown1 hs1 HEn
  have hlit : Sl (w1.alloc (.cells #[.int .u8 0, .int .u8 1, .int .u8 97, .int .u8 0, .int .u8 0] 5)) (fun _ => True) (some ⟨w1.heap.size, 0, none⟩) x1.length x1 := lit_u8 w1 x1 #[.int .u8 0, .int .u8 1, .int .u8 97, .int .u8 0, .int .u8 0] rfl
  have hbL1 := (Below.refl w1.heap.size w1).alloc (Nat.le_refl _) (.cells #[.int .u8 0, .int .u8 1, .int .u8 97, .int .u8 0, .int .u8 0] 5)
  obtain ⟨q1, hq1⟩ : ∃ q, q = w1.heap.size := ⟨_, rfl⟩
  obtain ⟨w2, hw2⟩ : ∃ z, z = w1.alloc (.cells #[.int .u8 0, .int .u8 1, .int .u8 97, .int .u8 0, .int .u8 0] 5) := ⟨_, rfl⟩
  rw [← hw2] at hlit hbL1
  rw [← hq1] at hlit
  have Hq1 := hide hq1
  have Hw2 := hide hw2
  clear hw2 hq1
  have E_2 := hide (E_1.out.keep hbL1)
  have B_2 := hide (B_1.out.trans (hbL1.mono B_1.out.size))
  have S_2 := hide (S_1.out.move (w' := w2) fun b _ hlt => hbL1.block b hlt)
  have L_2 := hide (hlit)
  clear hbL1 E_1 B_1 S_1 hlit
  go_wp2_with (first | rw [← Hw2.out, ← Hq1.out] | fail)
  refine (HD.out w2 _ L_2.out E_2.out).mono ?_
  rintro y w3 ⟨vi, vc, rfl, hi3, hc3, hb3⟩
  obtain ⟨Ai, ci, rfl, _⟩ := hi3.vs
  obtain ⟨Ac, cc, rfl, _⟩ := hc3.fls
  have E_3 := hide (E_2.out.keep hb3)
  have B_3 := hide (B_2.out.trans (hb3.mono B_2.out.size))
  have S_3 := hide (S_2.out.move (w' := w3) fun b _ hlt => hb3.block b hlt)
  clear hb3 E_2 B_2 S_2 L_2 hi3 hc3 HD
  have hrw := (Row.fresh w3 tP #[.slice Ai 0 ci, .string ⟨#[97]⟩, .string ⟨#[]⟩, .slice Ac 0 cc]).cell 1
  simp only [List.getElem?_cons_zero, List.getElem?_cons_succ] at hrw
  have hbP := (Below.refl w3.heap.size w3).alloc (Nat.le_refl _) (.cells #[.slice Ai 0 ci, .string ⟨#[97]⟩, .string ⟨#[]⟩, .slice Ac 0 cc] tP)
  obtain ⟨qP, hqP⟩ : ∃ q, q = w3.heap.size := ⟨_, rfl⟩
  obtain ⟨w4, hwP⟩ : ∃ z, z = w3.alloc (.cells #[.slice Ai 0 ci, .string ⟨#[97]⟩, .string ⟨#[]⟩, .slice Ac 0 cc] tP) := ⟨_, rfl⟩
  rw [← hwP] at hrw hbP
  rw [← hqP] at hrw
  have HqP := hide hqP
  have HwP := hide hwP
  clear hqP hwP
  have E_4 := hide (E_3.out.keep hbP)
  have B_4 := hide (B_3.out.trans (hbP.mono B_3.out.size))
  have S_4 := hide (S_3.out.move (w' := w4) fun b _ hlt => hbP.block b hlt)
  have K_4 := hide (hrw)
  clear hbP E_3 B_3 S_3 hrw
  have hlit : Chs (w4.alloc (.cells #[.string ⟨#[97]⟩, .bool false, .string ⟨#[98]⟩] tC)) (some ⟨w4.heap.size, 0, none⟩) 1 [xc] := lit_ch w4 xc
  have hbL4 := (Below.refl w4.heap.size w4).alloc (Nat.le_refl _) (.cells #[.string ⟨#[97]⟩, .bool false, .string ⟨#[98]⟩] tC)
  obtain ⟨q4, hq4⟩ : ∃ q, q = w4.heap.size := ⟨_, rfl⟩
  obtain ⟨w5, hw5⟩ : ∃ z, z = w4.alloc (.cells #[.string ⟨#[97]⟩, .bool false, .string ⟨#[98]⟩] tC) := ⟨_, rfl⟩
  rw [← hw5] at hlit hbL4
  rw [← hq4] at hlit
  have Hq4 := hide hq4
  have Hw5 := hide hw5
  clear hw5 hq4
  have E_5 := hide (E_4.out.keep hbL4)
  have B_5 := hide (B_4.out.trans (hbL4.mono B_4.out.size))
  have S_5 := hide (S_4.out.move (w' := w5) fun b _ hlt => hbL4.block b hlt)
  have K_5 := hide (agr K_4.out hbL4)
  have L_5 := hide (hlit)
  clear hbL4 E_4 B_4 S_4 K_4 hlit
  have e41 : w3.heap.size + 1 = q4 := by rw [Hq4.out, HwP.out]; simp
  go_wp2_with (first | rw [← HwP.out, ← HqP.out, ← Hw5.out] | fail)
  refine (HPl.out w5 _ L_5.out E_5.out).mono ?_
  rintro y w6 ⟨v6, rfl, hown6, hb6⟩
  obtain ⟨A6, c6, rfl, hf6⟩ := hown6.fls
  have E_6 := hide (E_5.out.keep hb6)
  have B_6 := hide (B_5.out.trans (hb6.mono B_5.out.size))
  have S_6 := hide (S_5.out.move (w' := w6) fun b _ hlt => hb6.block b hlt)
  have K_6 := hide (agr K_5.out hb6)
  have F_6 := hide (hf6)
  clear hb6 E_5 B_5 S_5 K_5 L_5 hown6 hf6 HPl e41
  go_wp2_with fail
  refine (HBt.out w6 A6 c6 F_6.out).mono ?_
  rintro y w7 ⟨v7, rfl, hown7, hb7⟩
  obtain ⟨A7, c7, rfl, hf7⟩ := hown7.fls
  have E_7 := hide (E_6.out.keep hb7)
  have B_7 := hide (B_6.out.trans (hb7.mono B_6.out.size))
  have S_7 := hide (S_6.out.move (w' := w7) fun b _ hlt => hb7.block b hlt)
  have K_7 := hide (agr K_6.out hb7)
  have F_7 := hide (F_6.out.keep hb7)
  have G_7 := hide (hf7)
  clear hb7 E_6 B_6 S_6 K_6 F_6 hown7 hf7 HBt
  have hlit : Sl (w7.alloc (.cells #[.int .u8 0, .int .u8 0, .int .u8 0, .int .u8 0] 5)) (fun _ => True) (some ⟨w7.heap.size, 0, none⟩) x0.length x0 := lit_u8 w7 x0 #[.int .u8 0, .int .u8 0, .int .u8 0, .int .u8 0] rfl
  have hbL7 := (Below.refl w7.heap.size w7).alloc (Nat.le_refl _) (.cells #[.int .u8 0, .int .u8 0, .int .u8 0, .int .u8 0] 5)
  obtain ⟨q7, hq7⟩ : ∃ q, q = w7.heap.size := ⟨_, rfl⟩
  obtain ⟨w8, hw8⟩ : ∃ z, z = w7.alloc (.cells #[.int .u8 0, .int .u8 0, .int .u8 0, .int .u8 0] 5) := ⟨_, rfl⟩
  rw [← hw8] at hlit hbL7
  rw [← hq7] at hlit
  have Hq7 := hide hq7
  have Hw8 := hide hw8
  clear hw8 hq7
  have E_8 := hide (E_7.out.keep hbL7)
  have B_8 := hide (B_7.out.trans (hbL7.mono B_7.out.size))
  have S_8 := hide (S_7.out.move (w' := w8) fun b _ hlt => hbL7.block b hlt)
  have K_8 := hide (agr K_7.out hbL7)
  have F_8 := hide (F_7.out.keep hbL7)
  have G_8 := hide (G_7.out.keep hbL7)
  have L_8 := hide (hlit)
  clear hbL7 E_7 B_7 S_7 K_7 F_7 G_7 hlit
  go_wp2_with (first | rw [← Hw8.out, ← Hq7.out] | fail)
  refine (HBy.out w8 A1 _ c1 _ S_8.out L_8.out).mono ?_
  rintro y w9 ⟨rfl, hb9⟩
  have E_9 := hide (E_8.out.keep hb9)
  have B_9 := hide (B_8.out.trans (hb9.mono B_8.out.size))
  have S_9 := hide (S_8.out.move (w' := w9) fun b _ hlt => hb9.block b hlt)
  have K_9 := hide (agr K_8.out hb9)
  have F_9 := hide (F_8.out.keep hb9)
  have G_9 := hide (G_8.out.keep hb9)
  clear hb9 E_8 B_8 S_8 K_8 F_8 G_8 L_8 HBy
  have ka := K_9.out
  have hlit : Fls (w9.alloc (.cells #[.string ⟨#[97]⟩, .string ⟨#[98]⟩] tF)) (some ⟨w9.heap.size, 0, none⟩) 1 [xf] := lit_fl w9 xf
  have hbL9 := (Below.refl w9.heap.size w9).alloc (Nat.le_refl _) (.cells #[.string ⟨#[97]⟩, .string ⟨#[98]⟩] tF)
  obtain ⟨q9, hq9⟩ : ∃ q, q = w9.heap.size := ⟨_, rfl⟩
  obtain ⟨w10, hw10⟩ : ∃ z, z = w9.alloc (.cells #[.string ⟨#[97]⟩, .string ⟨#[98]⟩] tF) := ⟨_, rfl⟩
  rw [← hw10] at hlit hbL9
  rw [← hq9] at hlit
  have Hq9 := hide hq9
  have Hw10 := hide hw10
  clear hw10 hq9
  have E_10 := hide (E_9.out.keep hbL9)
  have B_10 := hide (B_9.out.trans (hbL9.mono B_9.out.size))
  have S_10 := hide (S_9.out.move (w' := w10) fun b _ hlt => hbL9.block b hlt)
  have K_10 := hide (agr K_9.out hbL9)
  have F_10 := hide (F_9.out.keep hbL9)
  have G_10 := hide (G_9.out.keep hbL9)
  have L_10 := hide (hlit)
  clear hbL9 E_9 B_9 S_9 K_9 F_9 G_9 hlit
  have kb := K_10.out
  go_wp2_with (first | rw [← Hw10.out, ← Hq9.out] | fail)
  refine (HSm.out w10 A6 _ c6 _ F_10.out L_10.out).mono ?_
  rintro y w11 ⟨rfl, hb11⟩
  have E_11 := hide (E_10.out.keep hb11)
  have B_11 := hide (B_10.out.trans (hb11.mono B_10.out.size))
  have S_11 := hide (S_10.out.move (w' := w11) fun b _ hlt => hb11.block b hlt)
  have K_11 := hide (agr K_10.out hb11)
  have F_11 := hide (F_10.out.keep hb11)
  have G_11 := hide (G_10.out.keep hb11)
  clear hb11 E_10 B_10 S_10 K_10 F_10 G_10 L_10 HSm ka kb
  have hlit : Chs (w11.alloc (.cells #[.string ⟨#[97]⟩, .bool true, .string ⟨#[]⟩] tC)) (some ⟨w11.heap.size, 0, none⟩) 1 [xg] := lit_ch w11 xg
  have hbL11 := (Below.refl w11.heap.size w11).alloc (Nat.le_refl _) (.cells #[.string ⟨#[97]⟩, .bool true, .string ⟨#[]⟩] tC)
  obtain ⟨q11, hq11⟩ : ∃ q, q = w11.heap.size := ⟨_, rfl⟩
  obtain ⟨w12, hw12⟩ : ∃ z, z = w11.alloc (.cells #[.string ⟨#[97]⟩, .bool true, .string ⟨#[]⟩] tC) := ⟨_, rfl⟩
  rw [← hw12] at hlit hbL11
  rw [← hq11] at hlit
  have Hq11 := hide hq11
  have Hw12 := hide hw12
  clear hw12 hq11
  have E_12 := hide (E_11.out.keep hbL11)
  have B_12 := hide (B_11.out.trans (hbL11.mono B_11.out.size))
  have S_12 := hide (S_11.out.move (w' := w12) fun b _ hlt => hbL11.block b hlt)
  have K_12 := hide (agr K_11.out hbL11)
  have F_12 := hide (F_11.out.keep hbL11)
  have G_12 := hide (G_11.out.keep hbL11)
  have L_12 := hide (hlit)
  clear hbL11 E_11 B_11 S_11 K_11 F_11 G_11 hlit
  go_wp2_with (first | rw [← Hw12.out, ← Hq11.out] | fail)
  refine (HCg.out w12 A7 _ c7 _ G_12.out L_12.out).mono ?_
  rintro y w13 ⟨rfl, hb13⟩
  have E_13 := hide (E_12.out.keep hb13)
  have B_13 := hide (B_12.out.trans (hb13.mono B_12.out.size))
  have S_13 := hide (S_12.out.move (w' := w13) fun b _ hlt => hb13.block b hlt)
  have K_13 := hide (agr K_12.out hb13)
  have F_13 := hide (F_12.out.keep hb13)
  have G_13 := hide (G_12.out.keep hb13)
  clear hb13 E_12 B_12 S_12 K_12 F_12 G_12 L_12 HCg
  go_wp2_with fail
  refine (HNm.out w13 E_13.out).mono ?_
  rintro y w14 ⟨rfl, hb14⟩
  have E_14 := hide (E_13.out.keep hb14)
  have B_14 := hide (B_13.out.trans (hb14.mono B_13.out.size))
  have S_14 := hide (S_13.out.move (w' := w14) fun b _ hlt => hb14.block b hlt)
  have K_14 := hide (agr K_13.out hb14)
  have F_14 := hide (F_13.out.keep hb14)
  have G_14 := hide (G_13.out.keep hb14)
  clear hb14 E_13 B_13 S_13 K_13 F_13 G_13 HNm
  go_wp2_with fail
  refine (HOf.out w14 A1 c1 S_14.out E_14.out).mono ?_
  rintro y w15 ⟨rfl, hb15⟩
  have E_15 := hide (E_14.out.keep hb15)
  have B_15 := hide (B_14.out.trans (hb15.mono B_14.out.size))
  have S_15 := hide (S_14.out.move (w' := w15) fun b _ hlt => hb15.block b hlt)
  have K_15 := hide (agr K_14.out hb15)
  have F_15 := hide (F_14.out.keep hb15)
  have G_15 := hide (G_14.out.keep hb15)
  clear hb15 E_14 B_14 S_14 K_14 F_14 G_14 HOf
  go_wp2
  go_ret
  exact ⟨by simp, B_15.out⟩
end Go.Proofs.YtabgkfkjnpcbkaaDoor.Tr
namespace Go.Proofs.YtabgkfkjnpcbkaaDoor.Tr
open Go Go.RowKit Kt Lw Li Lx Df Wr

theorem pin_only {w : World} {l : List Ch} {A : Option Addr} {c : Nat} (h : Chs w A c l) (hl : ∀ f ∈ l, f.path.length ≤ 9223372036854775807 ∧ f.text.length ≤ 9223372036854775807) (hn : l.length ≤ 9223372036854775807) : PIn w (only l) none A 0 c :=
  ⟨⟨Nat.zero_le _, fun h => by simp [texts] at h⟩, h, fun q hq => (by cases hq), hl, Nat.zero_le _, Nat.zero_le _, Nat.zero_le _, hn⟩
theorem only_cgo {l : List Ch} (h : pright (only l) = true) : cgo none l = true := (pright_is h).2.2.2.2.2.1
set_option maxRecDepth 100000 in
set_option maxHeartbeats 8000000 in
theorem lawTwice_any (t : List Fl) (l : List Ch) (A A' : Option Addr) (c c' : Nat) (w : World) (hs : Fls w A c t) (hl : Chs w A' c' l) (hE : Env w) (hm : ∀ f ∈ t, f.path.length ≤ 9223372036854775807 ∧ f.text.length ≤ 9223372036854775807) (hn : t.length ≤ 9223372036854775807)
    (hm' : ∀ f ∈ l, f.path.length ≤ 9223372036854775807 ∧ f.text.length ≤ 9223372036854775807) (hn' : l.length ≤ 9223372036854775807) :
    Calls Tryd.prog 9 #[.slice A t.length c, .slice A' l.length c'] w fun y w' => y = .returned (.bool true) ∧ Below w.heap.size w w' := by
  have HFew := hide (fun (wz : World) (h : Fls wz A c t) => few_any t A c wz h)
  have HFp := hide (fun (wz : World) (h : Chs wz A' c' l) => show Calls Tryd.prog 11 #[.agg #[.slice none 0 0, .string ⟨#[]⟩, .string ⟨#[]⟩, .slice A' l.length c']] wz _ from pfew_any (only l) none A' 0 c' _ wz (pin_only h hm' hn').ids h (Nat.zero_le _) (Nat.zero_le _))
  have HRt := hide (fun (hl : t.length ≤ 12) (wz : World) (h : Fls wz A c t) => rright_any t A c wz h (by omega) (fun f hf => (hm f hf).1))
  have HRp := hide (fun (wz : World) (h : Chs wz A' c' l) (hE : Env wz) => show Calls Tryd.prog 15 #[.agg #[.slice none 0 0, .string ⟨#[]⟩, .string ⟨#[]⟩, .slice A' l.length c']] wz _ from pright_any (only l) none A' 0 c' wz (pin_only h hm' hn') hE.most)
  have HP1 := hide (fun (h1 : t.length ≤ 12) (h2 : l.length ≤ 12) (g1 : right t = true) (g2 : pright (only l) = true) (wz : World) (h : Fls wz A c t) (h' : Chs wz A' c' l) (hE : Env wz) => play_call t l A A' c c' wz h h' hE.most (right_go g1).1 (only_cgo g2) (by omega))
  have HX := hide (fun (h1 : t.length ≤ 12) (h2 : l.length ≤ 12) (g1 : right t = true) (g2 : pright (only l) = true) => show go none (play t l) = true ∧ (play t l).length ≤ 24 ∧ play (play t l) l = play t l from by
    obtain ⟨a1, a2, _⟩ := play_any (only_cgo g2) (right_go g1).1 (by omega)
    exact ⟨a1, by omega, play_twice (only_cgo g2) (right_go g1).1 (by omega)⟩)
  have HP2 := hide (fun (X : List Fl) (B : Option Addr) (d : Nat) (h1 : go none X = true) (hn1 : X.length ≤ 24) (hx : play X l = X) (h2 : l.length ≤ 12) (g2 : pright (only l) = true) (wz : World) (h : Fls wz B d X) (h' : Chs wz A' c' l) (hE : Env wz) => by
    have := play_call X l B A' d c' wz h h' hE.most h1 (only_cgo g2) (by omega)
    rw [hx] at this
    exact this)
  have HS := hide (fun (X : List Fl) (hn1 : X.length ≤ 24) (wz : World) (B B' : Option Addr) (d d' : Nat) (h1 : Fls wz B d X) (h2 : Fls wz B' d' X) => same_any X X B B' d d' wz h1 h2 (by omega))
  have HFi := hide (fun h => (few_is (t := t) h).1)
  have HFj := hide (fun h => (fewP_is (p := only l) h).2.1)
  obtain ⟨N, hN⟩ : ∃ N, N = t.length := ⟨_, rfl⟩
  obtain ⟨M, hM⟩ : ∃ N, N = l.length := ⟨_, rfl⟩
  rw [← hN] at HFew HRt HP1 HFi HX
  simp only [] at HFj
  rw [← hM] at HFp HRp HP1 HFj HX HP2
  rw [← hN, ← hM]
  generalize play t l = X at *
  generalize fewB t = fb at *
  generalize fewP (only l) = gb at *
  generalize right t = rt at *
  generalize pright (only l) = rl at *
  have E_0 := hide (hE)
  have B_0 := hide (Below.refl w.heap.size w)
  have F_0 := hide (hs)
  have L_0 := hide (hl)
  clear hE hs hl hm hn hm' hn' hN hM
  go_enter Tryd.func9, Tryd.ntmps9
  go_wp2_with fail
  refine (pwake_any w E_0.out).mono ?_
  rintro y w1 ⟨rfl, hb1⟩
  have E_1 := hide (E_0.out.keep hb1)
  have B_1 := hide (B_0.out.trans (hb1.mono B_0.out.size))
  have F_1 := hide (F_0.out.keep hb1)
  have L_1 := hide (L_0.out.keep hb1)
  clear hb1 E_0 B_0 F_0 L_0
  go_wp2_with fail
  refine (HFew.out w1 F_1.out).mono ?_
  rintro y w2 ⟨rfl, hb2⟩
  have E_2 := hide (E_1.out.keep hb2)
  have B_2 := hide (B_1.out.trans (hb2.mono B_1.out.size))
  have F_2 := hide (F_1.out.keep hb2)
  have L_2 := hide (L_1.out.keep hb2)
  clear hb2 E_1 B_1 F_1 L_1 HFew
  go_wp2_with fail
  refine (HFp.out w2 L_2.out).mono ?_
  rintro y w3 ⟨rfl, hb3⟩
  have E_3 := hide (E_2.out.keep hb3)
  have B_3 := hide (B_2.out.trans (hb3.mono B_2.out.size))
  have F_3 := hide (F_2.out.keep hb3)
  have L_3 := hide (L_2.out.keep hb3)
  clear hb3 E_2 B_2 F_2 L_2 HFp
  cases fb with
  | false =>
    go_wp2
    go_ret
    exact ⟨rfl, B_3.out⟩
  | true =>
    cases gb with
    | false =>
      go_wp2
      go_ret
      exact ⟨rfl, B_3.out⟩
    | true =>
      have h12 := HFi.out rfl
      have m12 := HFj.out rfl
      go_wp2_with fail
      refine (HRt.out h12 w3 F_3.out).mono ?_
      rintro y w4 ⟨rfl, hb4⟩
      have E_4 := hide (E_3.out.keep hb4)
      have B_4 := hide (B_3.out.trans (hb4.mono B_3.out.size))
      have F_4 := hide (F_3.out.keep hb4)
      have L_4 := hide (L_3.out.keep hb4)
      clear hb4 E_3 B_3 F_3 L_3 HRt
      go_wp2_with fail
      refine (HRp.out w4 L_4.out E_4.out).mono ?_
      rintro y w5 ⟨rfl, hb5⟩
      have E_5 := hide (E_4.out.keep hb5)
      have B_5 := hide (B_4.out.trans (hb5.mono B_4.out.size))
      have F_5 := hide (F_4.out.keep hb5)
      have L_5 := hide (L_4.out.keep hb5)
      clear hb5 E_4 B_4 F_4 L_4 HRp
      cases rt with
      | false =>
        go_wp2
        go_ret
        exact ⟨rfl, B_5.out⟩
      | true =>
        cases rl with
        | false =>
          go_wp2
          go_ret
          exact ⟨rfl, B_5.out⟩
        | true =>
          obtain ⟨x1, x2, x3⟩ := HX.out h12 m12 rfl rfl
          have P1 := hide (HP1.out h12 m12 rfl rfl)
          have P2 := hide (fun B d => HP2.out X B d x1 x2 x3 m12 rfl)
          have S1 := hide (HS.out X x2)
          clear HX HP1 HP2 HS HFi HFj x1 x2 x3 h12 m12
          go_wp2_with fail
          refine (P1.out w5 F_5.out L_5.out E_5.out).mono ?_
          rintro y w6 ⟨v6, rfl, hown6, hb6⟩
          obtain ⟨A6, c6, rfl, hf6⟩ := hown6.fls
          have E_6 := hide (E_5.out.keep hb6)
          have B_6 := hide (B_5.out.trans (hb6.mono B_5.out.size))
          have F_6 := hide (F_5.out.keep hb6)
          have L_6 := hide (L_5.out.keep hb6)
          have X_6 := hide (hf6)
          clear hb6 E_5 B_5 F_5 L_5 hown6 hf6 P1
          go_wp2_with fail
          refine (P2.out A6 c6 w6 X_6.out L_6.out E_6.out).mono ?_
          rintro y w7 ⟨v7, rfl, hown7, hb7⟩
          obtain ⟨A7, c7, rfl, hf7⟩ := hown7.fls
          have E_7 := hide (E_6.out.keep hb7)
          have B_7 := hide (B_6.out.trans (hb7.mono B_6.out.size))
          have F_7 := hide (F_6.out.keep hb7)
          have L_7 := hide (L_6.out.keep hb7)
          have X_7 := hide (X_6.out.keep hb7)
          have Y_7 := hide (hf7)
          clear hb7 E_6 B_6 F_6 L_6 X_6 hown7 hf7 P2
          go_wp2_with fail
          refine (S1.out w7 A7 A6 c7 c6 Y_7.out X_7.out).mono ?_
          rintro y w8 ⟨rfl, hb8⟩
          have E_8 := hide (E_7.out.keep hb8)
          have B_8 := hide (B_7.out.trans (hb8.mono B_7.out.size))
          have F_8 := hide (F_7.out.keep hb8)
          have L_8 := hide (L_7.out.keep hb8)
          have X_8 := hide (X_7.out.keep hb8)
          have Y_8 := hide (Y_7.out.keep hb8)
          clear hb8 E_7 B_7 F_7 L_7 X_7 Y_7 S1
          go_wp2
          go_ret
          exact ⟨by simp, B_8.out⟩
end Go.Proofs.YtabgkfkjnpcbkaaDoor.Tr
namespace Go.Proofs.YtabgkfkjnpcbkaaDoor.Tr
open Go Go.RowKit Go.WideShapes Go.ChangeShapes Go.ChangeAt Go.ChangeMaps Go.Deep Kt Lw Li Df
section
variable {H : Type} {enc : TypeId × Value → H}
open Go.Joins in
set_option maxRecDepth 100000 in
theorem open_fileS {W : World} {base : Nat} {v : Value} {d : DataW H} {ps : List MemPlace} {ts : List TypeId} {ds : List (DataW H)} (hz : (DataW.weightsEach Tryd.prog ts ds).all (· ≤ reachBytes) = true) (j : Nat) (hj : ts[j]? = some 53) (hd : ds[j]? = some d)
    (hval : Value.okWide Tryd.prog W .any base 53 v) (h : DataW.Trod enc Tryd.prog W 0 (fun _ => true) true 53 v d ps) :
    ∃ f : Fl, v = .agg #[.string ⟨f.path.toArray⟩, .string ⟨f.text.toArray⟩] ∧ f.path.length ≤ 140737488351232 ∧ f.text.length ≤ 140737488351232 := by
  obtain ⟨v0, v1, y0, y1, n, rfl, hdd, _, h0, h1⟩ := open_agg2 Tryd.underlying53 (by kernel_rfl) (by kernel_rfl) hval h
  obtain ⟨p, e0, k0, _⟩ := DataW.trod_string Tryd.underlying9 h0
  obtain ⟨x, e1, k1, _⟩ := DataW.trod_string Tryd.underlying9 h1
  simp only [List.cons.injEq, and_true] at e0 e1
  subst e0 e1
  have w0 : p.data.toList.length ∈ DataW.weightsEach Tryd.prog ts ds := DataW.weights_mem_each hj hd _ (by
    rw [hdd, DataW.weights, Tryd.underlying53]
    refine DataW.weights_mem_each (j := 0) (t := 9) (d := y0.1) rfl rfl _ ?_
    rw [k0, DataW.weights]
    exact List.mem_singleton.2 rfl)
  have w1 : x.data.toList.length ∈ DataW.weightsEach Tryd.prog ts ds := DataW.weights_mem_each hj hd _ (by
    rw [hdd, DataW.weights, Tryd.underlying53]
    refine DataW.weights_mem_each (j := 1) (t := 9) (d := y1.1) rfl rfl _ ?_
    rw [k1, DataW.weights]
    exact List.mem_singleton.2 rfl)
  have z0 := List.all_eq_true.1 hz _ w0
  have z1 := List.all_eq_true.1 hz _ w1
  rw [reach_eq] at z0 z1
  exact ⟨⟨p.data.toList, x.data.toList⟩, rfl, by simpa using z0, by simpa using z1⟩
end
theorem own : ownKnob Tryd.prog.godebug = none := by kernel_rfl
theorem laidOut : laidOutB Tryd.prog = true := by kernel_rfl
theorem cells8 : Tryd.prog.cellsOf 5 = 1 := by kernel_rfl
theorem gTab : Tryd.prog.globalNamed "grapevine/digest.steps" = some 1 := by kernel_rfl
theorem gTabType : (Tryd.prog.globals[1]?).map (·.type) = some 84 := by kernel_rfl
theorem gTabR : Tryd.prog.globalNamed "grapevine/grapevineref01.keys" = some 0 := by kernel_rfl
theorem gTabTypeR : (Tryd.prog.globals[0]?).map (·.type) = some 84 := by kernel_rfl
theorem cells64 : Tryd.prog.cellsOf 84 = 64 := by kernel_rfl
theorem cells32 : Tryd.prog.cellsOf 79 = 1 := by kernel_rfl
def keysI : List Int := [1116352408, 1899447441, 3049323471, 3921009573, 961987163, 1508970993, 2453635748, 2870763221, 3624381080, 310598401, 607225278, 1426881987, 1925078388, 2162078206, 2614888103, 3248222580, 3835390401, 4022224774, 264347078, 604807628, 770255983, 1249150122, 1555081692, 1996064986, 2554220882, 2821834349, 2952996808, 3210313671, 3336571891, 3584528711, 113926993, 338241895, 666307205, 773529912, 1294757372, 1396182291, 1695183700, 1986661051, 2177026350, 2456956037, 2730485921, 2820302411, 3259730800, 3345764771, 3516065817, 3600352804, 4094571909, 275423344, 430227734, 506948616, 659060556, 883997877, 958139571, 1322822218, 1537002063, 1747873779, 1955562222, 2024104815, 2227730452, 2361852424, 2428436474, 2756734187, 3204031479, 3329325298]
theorem keysI_get : ∀ i, i < 64 → keysI.getD i 0 = ((Sha.keys.getD i 0 : Nat) : Int) := by decide +kernel
theorem tab_of {W : World} (h : Lib.TabIs Tryd.prog W "grapevine/digest.steps" .u32 keysI) : Dg.Tab W := by
  intro i hi
  rw [h.cell gTab i (by simpa [keysI] using hi), keysI_get i hi]
theorem tabR_of {W : World} (h : Lib.TabIs Tryd.prog W "grapevine/grapevineref01.keys" .u32 keysI) : Dg.TabR W := by
  intro i hi
  rw [h.cell gTabR i (by simpa [keysI] using hi), keysI_get i hi]
theorem most_of {W : World} (h : W.ShapedOpen Tryd.prog) : Most W :=
  cell_of_shapedOpen_int (zero := #[.int .i64 0]) (t := 3) h (of_decide_eq_true (by kernel_rfl)) (by kernel_rfl) rfl (by kernel_rfl) (by kernel_rfl) Tryd.underlying3
abbrev laid4 : List (String × DataW Unit) := [("grapevine/grapevineref01.keys", Rows.laid_grapevine_grapevineref01_keys), ("unicode/utf8.acceptRanges", Rows.laid_unicode_utf8_acceptRanges), ("grapevine/digest.steps", Rows.laid_grapevine_digest_steps), ("unicode/utf8.first", Rows.laid_unicode_utf8_first)]
theorem env_of {W : World} (h : laidMetH Tryd.prog laid4 W) (hsh : W.ShapedOpen Tryd.prog) : Env W := by
  have h1 : laidMet Tryd.prog [("grapevine/digest.steps", Rows.laid_grapevine_digest_steps)] W := h.filter fun x => x.1 == "grapevine/digest.steps"
  have h2 : laidMet Tryd.prog [("grapevine/grapevineref01.keys", Rows.laid_grapevine_grapevineref01_keys)] W := h.filter fun x => x.1 == "grapevine/grapevineref01.keys"
  exact ⟨most_of hsh, tab_of (Lib.tabIs_of_head (rest := []) gTab gTabType Tryd.underlying84 Tryd.underlying79 cells32 cells64 h1), tabR_of (Lib.tabIs_of_head (rest := []) gTabR gTabTypeR Tryd.underlying84 Tryd.underlying79 cells32 cells64 h2)⟩
end Go.Proofs.YtabgkfkjnpcbkaaDoor.Tr
