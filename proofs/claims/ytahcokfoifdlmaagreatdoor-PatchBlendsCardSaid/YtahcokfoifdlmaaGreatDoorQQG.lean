/-
  patches: the chapter's example.
-/
import Derived.BigQuiet
import Derived.Test.YtahcokfoifdlmaaGreatDoorQPU
import Derived.Test.YtahcokfoifdlmaaGreatDoorPX
import Derived.Test.YtahcokfoifdlmaaGreatDoorPY
import Derived.Test.YtahcokfoifdlmaaGreatDoorQPB
import Derived.Test.YtahcokfoifdlmaaGreatDoorQWS
import Derived.Test.YtahcokfoifdlmaaGreatDoorRfE
import Derived.Test.YtahcokfoifdlmaaGreatDoorQWK
import Derived.Test.YtahcokfoifdlmaaGreatDoorQNA
import Derived.Deep.AppendLies
import Derived.OrdersIn
import Derived.Test.YtahcokfoifdlmaaGreatDoorQWI
namespace Go.Proofs.YtahcokfoifdlmaaGreatDoor.Tr
open Go Go.RowKit Kt Lw Li Lx Df Wr

def x0 : Bs := [0, 0, 0, 0]
def x1 : Bs := [0, 1, 97, 0, 0]
def xf : Fl := ⟨[97], [98]⟩
def xc : Ch := ⟨[97], false, [98]⟩
def xg : Ch := ⟨[97], true, []⟩
theorem a_enc : pencode noPch = (x0, 0) := by decide +kernel
theorem a_right : pright noPch = true := by decide +kernel
theorem a_form : pform noPch = x0 := by decide +kernel
theorem a_name : pname noPch = Sha.sha x0 := by unfold pname; rw [if_pos a_right, a_form]
theorem a_dec : pdecode x1 = (⟨[], [97], [], []⟩, 0) := by decide +kernel
theorem a_play : play [] [xc] = [xf] := by decide +kernel
theorem a_betw : betw [xf] [] = [xg] := by decide +kernel
theorem a_go : go none [xf] = true := by decide +kernel
theorem a_cgo : cgo none [xc] = true := by decide +kernel
theorem lit_u8 (w : World) (l : Bs) (cs : Array Value) (h : cs.toList = u8s l) : Sl (w.alloc (.cells cs 5)) (fun _ => True) (some ⟨w.heap.size, 0, none⟩) l.length l :=
  ⟨Nat.le_refl _, fun _ => ⟨w.heap.size, 0, rfl, trivial, fun j hj => by
    rw [Nat.zero_add, (Row.fresh w _ _).cell, h, u8s_get _ _ hj]⟩⟩
theorem lit_ch (w : World) (c : Ch) : Chs (w.alloc (.cells #[.string ⟨c.path.toArray⟩, .bool c.gone, .string ⟨c.text.toArray⟩] tC)) (some ⟨w.heap.size, 0, none⟩) 1 [c] :=
  ⟨Nat.le_refl _, fun _ => ⟨w.heap.size, 0, rfl, (Row.fresh w tC _).lt, fun j r hj k u hk => by
    have hrow := Row.fresh w tC #[.string ⟨c.path.toArray⟩, .bool c.gone, .string ⟨c.text.toArray⟩]
    rcases j with _ | j
    · simp only [List.getElem?_cons_zero, Option.some.injEq] at hj
      subst hj
      rw [hrow.cell]
      simp only [Nat.mul_zero, Nat.zero_add]
      exact hk
    · simp at hj⟩⟩
theorem lit_fl (w : World) (f : Fl) : Fls (w.alloc (.cells #[.string ⟨f.path.toArray⟩, .string ⟨f.text.toArray⟩] tF)) (some ⟨w.heap.size, 0, none⟩) 1 [f] := by
  obtain ⟨A, c, e, h⟩ := IsF.one w f
  cases e
  exact h
theorem pin_none (w : World) : PIn w noPch none none 0 0 := ⟨⟨Nat.zero_le _, fun h => by simp [texts] at h⟩, Chs.nil _ _ _, fun q hq => (by cases hq), fun f hf => (by cases hf), by decide, by decide, by decide, by decide⟩
set_option maxRecDepth 100000 in
set_option maxHeartbeats 8000000 in
theorem pwake_any (w : World) (hE : Env w) : Calls Tryz.prog 4 #[] w fun y w' => y = .returned (.bool true) ∧ Below w.heap.size w w' := by
  have HE := hide hE
  have HEn := hide (fun (wz : World) (hE : Env wz) => show Calls Tryz.prog 12 #[.agg #[.slice none 0 0, .string ⟨#[]⟩, .string ⟨#[]⟩, .slice none 0 0]] wz _ from by
    have := pencode_any noPch none none 0 0 wz (pin_none wz) hE.most
    rw [a_enc] at this
    exact this)
  have HD := hide (fun (wz : World) A (hs : Sl wz (fun _ => True) A 5 x1) (hE : Env wz) => by
    have := pdecode_any x1 A 5 _ wz hs hE.most (by decide)
    rw [a_dec] at this
    exact this)
  have HPl := hide (fun (wz : World) A (hs : Chs wz A 1 [xc]) (hE : Env wz) => by
    have := play_call [] [xc] none A 0 1 wz (Fls.nil _ _ _) hs hE.most rfl a_cgo (by decide)
    rw [a_play] at this
    exact this)
  have HBt := hide (fun (wz : World) A c (hs : Fls wz A c [xf]) => by
    have := between_call [xf] [] A none c 0 wz hs (Fls.nil _ _ _) a_go rfl (by decide +kernel)
    rw [a_betw] at this
    exact this)
  have HBy := hide (fun (wz : World) A A' c c' (hs : Sl wz (fun _ => True) A c x0) (hs' : Sl wz (fun _ => True) A' c' x0) => bytes_any x0 x0 A A' c c' _ _ wz hs hs' (by decide))
  have HSm := hide (fun (wz : World) A A' c c' (hs : Fls wz A c [xf]) (hs' : Fls wz A' c' [xf]) => same_any [xf] [xf] A A' c c' wz hs hs' (by decide))
  have HCg := hide (fun (wz : World) A A' c c' (hs : Chs wz A c [xg]) (hs' : Chs wz A' c' [xg]) => changes_any [xg] [xg] A A' c c' wz hs hs' (by decide))
  have HNm := hide (fun (wz : World) (hE : Env wz) => show Calls Tryz.prog 17 #[.agg #[.slice none 0 0, .string ⟨#[]⟩, .string ⟨#[]⟩, .slice none 0 0]] wz _ from by
    have := pname_any noPch none none 0 0 wz (pin_none wz) hE.most hE.tab
    rw [a_name] at this
    exact this)
  have HOf := hide (fun (wz : World) A c (hs : Sl wz (fun _ => True) A c x0) (hE : Env wz) => Dg.rof_any x0 A c _ wz hs (by decide) hE.tabR)
  generalize hsh : Sha.sha x0 = sh at HNm HOf
  clear hsh hE
  go_enter Tryz.func4, Tryz.ntmps4
  have E_0 := hide (HE.out)
  have B_0 := hide (Below.refl w.heap.size w)
  go_wp2_with fail
  refine (HEn.out w E_0.out).mono ?_
  rintro y w1 ⟨v1, rfl, hown1, hb1⟩
  obtain ⟨A1, c1, rfl, hs1⟩ := hown1.sl
  have E_1 := hide (E_0.out.keep hb1)
  have B_1 := hide (B_0.out.trans (hb1.mono B_0.out.size))
  have S_1 := hide (hs1.imp (Q := fun _ => True) fun _ _ _ => trivial)
  clear hb1 E_0 B_0 hown1 hs1 HEn
  have hlit : Sl (w1.alloc (.cells #[.int .u8 0, .int .u8 1, .int .u8 97, .int .u8 0, .int .u8 0] 5)) (fun _ => True) (some ⟨w1.heap.size, 0, none⟩) x1.length x1 := lit_u8 w1 x1 #[.int .u8 0, .int .u8 1, .int .u8 97, .int .u8 0, .int .u8 0] rfl
  have hbL1 := (Below.refl w1.heap.size w1).alloc (Nat.le_refl _) (.cells #[.int .u8 0, .int .u8 1, .int .u8 97, .int .u8 0, .int .u8 0] 5)
  obtain ⟨q1, hq1⟩ : ∃ q, q = w1.heap.size := ⟨_, rfl⟩
  obtain ⟨w2, hw2⟩ : ∃ z, z = w1.alloc (.cells #[.int .u8 0, .int .u8 1, .int .u8 97, .int .u8 0, .int .u8 0] 5) := ⟨_, rfl⟩
  rw [← hw2] at hlit hbL1
  rw [← hq1] at hlit
  have Hq1 := hide hq1
  have Hw2 := hide hw2
  clear hw2 hq1
  have E_2 := hide (E_1.out.keep hbL1)
  have B_2 := hide (B_1.out.trans (hbL1.mono B_1.out.size))
  have S_2 := hide (S_1.out.move (w' := w2) fun b _ hlt => hbL1.block b hlt)
  have L_2 := hide (hlit)
  clear hbL1 E_1 B_1 S_1 hlit
  go_wp2_with (first | rw [← Hw2.out, ← Hq1.out] | fail)
  refine (HD.out w2 _ L_2.out E_2.out).mono ?_
  rintro y w3 ⟨vi, vc, rfl, hi3, hc3, hb3⟩
  obtain ⟨Ai, ci, rfl, _⟩ := hi3.vs
  obtain ⟨Ac, cc, rfl, _⟩ := hc3.fls
  have E_3 := hide (E_2.out.keep hb3)
  have B_3 := hide (B_2.out.trans (hb3.mono B_2.out.size))
  have S_3 := hide (S_2.out.move (w' := w3) fun b _ hlt => hb3.block b hlt)
  clear hb3 E_2 B_2 S_2 L_2 hi3 hc3 HD
  have hrw := (Row.fresh w3 tP #[.slice Ai 0 ci, .string ⟨#[97]⟩, .string ⟨#[]⟩, .slice Ac 0 cc]).cell 1
  simp only [List.getElem?_cons_zero, List.getElem?_cons_succ] at hrw
  have hbP := (Below.refl w3.heap.size w3).alloc (Nat.le_refl _) (.cells #[.slice Ai 0 ci, .string ⟨#[97]⟩, .string ⟨#[]⟩, .slice Ac 0 cc] tP)
  obtain ⟨qP, hqP⟩ : ∃ q, q = w3.heap.size := ⟨_, rfl⟩
  obtain ⟨w4, hwP⟩ : ∃ z, z = w3.alloc (.cells #[.slice Ai 0 ci, .string ⟨#[97]⟩, .string ⟨#[]⟩, .slice Ac 0 cc] tP) := ⟨_, rfl⟩
  rw [← hwP] at hrw hbP
  rw [← hqP] at hrw
  have HqP := hide hqP
  have HwP := hide hwP
  clear hqP hwP
  have E_4 := hide (E_3.out.keep hbP)
  have B_4 := hide (B_3.out.trans (hbP.mono B_3.out.size))
  have S_4 := hide (S_3.out.move (w' := w4) fun b _ hlt => hbP.block b hlt)
  have K_4 := hide (hrw)
  clear hbP E_3 B_3 S_3 hrw
  have hlit : Chs (w4.alloc (.cells #[.string ⟨#[97]⟩, .bool false, .string ⟨#[98]⟩] tC)) (some ⟨w4.heap.size, 0, none⟩) 1 [xc] := lit_ch w4 xc
  have hbL4 := (Below.refl w4.heap.size w4).alloc (Nat.le_refl _) (.cells #[.string ⟨#[97]⟩, .bool false, .string ⟨#[98]⟩] tC)
  obtain ⟨q4, hq4⟩ : ∃ q, q = w4.heap.size := ⟨_, rfl⟩
  obtain ⟨w5, hw5⟩ : ∃ z, z = w4.alloc (.cells #[.string ⟨#[97]⟩, .bool false, .string ⟨#[98]⟩] tC) := ⟨_, rfl⟩
  rw [← hw5] at hlit hbL4
  rw [← hq4] at hlit
  have Hq4 := hide hq4
  have Hw5 := hide hw5
  clear hw5 hq4
  have E_5 := hide (E_4.out.keep hbL4)
  have B_5 := hide (B_4.out.trans (hbL4.mono B_4.out.size))
  have S_5 := hide (S_4.out.move (w' := w5) fun b _ hlt => hbL4.block b hlt)
  have K_5 := hide (agr K_4.out hbL4)
  have L_5 := hide (hlit)
  clear hbL4 E_4 B_4 S_4 K_4 hlit
  have e41 : w3.heap.size + 1 = q4 := by rw [Hq4.out, HwP.out]; simp
  go_wp2_with (first | rw [← HwP.out, ← HqP.out, ← Hw5.out] | fail)
  refine (HPl.out w5 _ L_5.out E_5.out).mono ?_
  rintro y w6 ⟨v6, rfl, hown6, hb6⟩
  obtain ⟨A6, c6, rfl, hf6⟩ := hown6.fls
  have E_6 := hide (E_5.out.keep hb6)
  have B_6 := hide (B_5.out.trans (hb6.mono B_5.out.size))
  have S_6 := hide (S_5.out.move (w' := w6) fun b _ hlt => hb6.block b hlt)
  have K_6 := hide (agr K_5.out hb6)
  have F_6 := hide (hf6)
  clear hb6 E_5 B_5 S_5 K_5 L_5 hown6 hf6 HPl e41
  go_wp2_with fail
  refine (HBt.out w6 A6 c6 F_6.out).mono ?_
  rintro y w7 ⟨v7, rfl, hown7, hb7⟩
  obtain ⟨A7, c7, rfl, hf7⟩ := hown7.fls
  have E_7 := hide (E_6.out.keep hb7)
  have B_7 := hide (B_6.out.trans (hb7.mono B_6.out.size))
  have S_7 := hide (S_6.out.move (w' := w7) fun b _ hlt => hb7.block b hlt)
  have K_7 := hide (agr K_6.out hb7)
  have F_7 := hide (F_6.out.keep hb7)
  have G_7 := hide (hf7)
  clear hb7 E_6 B_6 S_6 K_6 F_6 hown7 hf7 HBt
  have hlit : Sl (w7.alloc (.cells #[.int .u8 0, .int .u8 0, .int .u8 0, .int .u8 0] 5)) (fun _ => True) (some ⟨w7.heap.size, 0, none⟩) x0.length x0 := lit_u8 w7 x0 #[.int .u8 0, .int .u8 0, .int .u8 0, .int .u8 0] rfl
  have hbL7 := (Below.refl w7.heap.size w7).alloc (Nat.le_refl _) (.cells #[.int .u8 0, .int .u8 0, .int .u8 0, .int .u8 0] 5)
  obtain ⟨q7, hq7⟩ : ∃ q, q = w7.heap.size := ⟨_, rfl⟩
  obtain ⟨w8, hw8⟩ : ∃ z, z = w7.alloc (.cells #[.int .u8 0, .int .u8 0, .int .u8 0, .int .u8 0] 5) := ⟨_, rfl⟩
  rw [← hw8] at hlit hbL7
  rw [← hq7] at hlit
  have Hq7 := hide hq7
  have Hw8 := hide hw8
  clear hw8 hq7
  have E_8 := hide (E_7.out.keep hbL7)
  have B_8 := hide (B_7.out.trans (hbL7.mono B_7.out.size))
  have S_8 := hide (S_7.out.move (w' := w8) fun b _ hlt => hbL7.block b hlt)
  have K_8 := hide (agr K_7.out hbL7)
  have F_8 := hide (F_7.out.keep hbL7)
  have G_8 := hide (G_7.out.keep hbL7)
  have L_8 := hide (hlit)
  clear hbL7 E_7 B_7 S_7 K_7 F_7 G_7 hlit
  go_wp2_with (first | rw [← Hw8.out, ← Hq7.out] | fail)
  refine (HBy.out w8 A1 _ c1 _ S_8.out L_8.out).mono ?_
  rintro y w9 ⟨rfl, hb9⟩
  have E_9 := hide (E_8.out.keep hb9)
  have B_9 := hide (B_8.out.trans (hb9.mono B_8.out.size))
  have S_9 := hide (S_8.out.move (w' := w9) fun b _ hlt => hb9.block b hlt)
  have K_9 := hide (agr K_8.out hb9)
  have F_9 := hide (F_8.out.keep hb9)
  have G_9 := hide (G_8.out.keep hb9)
  clear hb9 E_8 B_8 S_8 K_8 F_8 G_8 L_8 HBy
  have ka := K_9.out
  have hlit : Fls (w9.alloc (.cells #[.string ⟨#[97]⟩, .string ⟨#[98]⟩] tF)) (some ⟨w9.heap.size, 0, none⟩) 1 [xf] := lit_fl w9 xf
  have hbL9 := (Below.refl w9.heap.size w9).alloc (Nat.le_refl _) (.cells #[.string ⟨#[97]⟩, .string ⟨#[98]⟩] tF)
  obtain ⟨q9, hq9⟩ : ∃ q, q = w9.heap.size := ⟨_, rfl⟩
  obtain ⟨w10, hw10⟩ : ∃ z, z = w9.alloc (.cells #[.string ⟨#[97]⟩, .string ⟨#[98]⟩] tF) := ⟨_, rfl⟩
  rw [← hw10] at hlit hbL9
  rw [← hq9] at hlit
  have Hq9 := hide hq9
  have Hw10 := hide hw10
  clear hw10 hq9
  have E_10 := hide (E_9.out.keep hbL9)
  have B_10 := hide (B_9.out.trans (hbL9.mono B_9.out.size))
  have S_10 := hide (S_9.out.move (w' := w10) fun b _ hlt => hbL9.block b hlt)
  have K_10 := hide (agr K_9.out hbL9)
  have F_10 := hide (F_9.out.keep hbL9)
  have G_10 := hide (G_9.out.keep hbL9)
  have L_10 := hide (hlit)
  clear hbL9 E_9 B_9 S_9 K_9 F_9 G_9 hlit
  have kb := K_10.out
  go_wp2_with (first | rw [← Hw10.out, ← Hq9.out] | fail)
  refine (HSm.out w10 A6 _ c6 _ F_10.out L_10.out).mono ?_
  rintro y w11 ⟨rfl, hb11⟩
  have E_11 := hide (E_10.out.keep hb11)
  have B_11 := hide (B_10.out.trans (hb11.mono B_10.out.size))
  have S_11 := hide (S_10.out.move (w' := w11) fun b _ hlt => hb11.block b hlt)
  have K_11 := hide (agr K_10.out hb11)
  have F_11 := hide (F_10.out.keep hb11)
  have G_11 := hide (G_10.out.keep hb11)
  clear hb11 E_10 B_10 S_10 K_10 F_10 G_10 L_10 HSm ka kb
  have hlit : Chs (w11.alloc (.cells #[.string ⟨#[97]⟩, .bool true, .string ⟨#[]⟩] tC)) (some ⟨w11.heap.size, 0, none⟩) 1 [xg] := lit_ch w11 xg
  have hbL11 := (Below.refl w11.heap.size w11).alloc (Nat.le_refl _) (.cells #[.string ⟨#[97]⟩, .bool true, .string ⟨#[]⟩] tC)
  obtain ⟨q11, hq11⟩ : ∃ q, q = w11.heap.size := ⟨_, rfl⟩
  obtain ⟨w12, hw12⟩ : ∃ z, z = w11.alloc (.cells #[.string ⟨#[97]⟩, .bool true, .string ⟨#[]⟩] tC) := ⟨_, rfl⟩
  rw [← hw12] at hlit hbL11
  rw [← hq11] at hlit
  have Hq11 := hide hq11
  have Hw12 := hide hw12
  clear hw12 hq11
  have E_12 := hide (E_11.out.keep hbL11)
  have B_12 := hide (B_11.out.trans (hbL11.mono B_11.out.size))
  have S_12 := hide (S_11.out.move (w' := w12) fun b _ hlt => hbL11.block b hlt)
  have K_12 := hide (agr K_11.out hbL11)
  have F_12 := hide (F_11.out.keep hbL11)
  have G_12 := hide (G_11.out.keep hbL11)
  have L_12 := hide (hlit)
  clear hbL11 E_11 B_11 S_11 K_11 F_11 G_11 hlit
  go_wp2_with (first | rw [← Hw12.out, ← Hq11.out] | fail)
  refine (HCg.out w12 A7 _ c7 _ G_12.out L_12.out).mono ?_
  rintro y w13 ⟨rfl, hb13⟩
  have E_13 := hide (E_12.out.keep hb13)
  have B_13 := hide (B_12.out.trans (hb13.mono B_12.out.size))
  have S_13 := hide (S_12.out.move (w' := w13) fun b _ hlt => hb13.block b hlt)
  have K_13 := hide (agr K_12.out hb13)
  have F_13 := hide (F_12.out.keep hb13)
  have G_13 := hide (G_12.out.keep hb13)
  clear hb13 E_12 B_12 S_12 K_12 F_12 G_12 L_12 HCg
  go_wp2_with fail
  refine (HNm.out w13 E_13.out).mono ?_
  rintro y w14 ⟨rfl, hb14⟩
  have E_14 := hide (E_13.out.keep hb14)
  have B_14 := hide (B_13.out.trans (hb14.mono B_13.out.size))
  have S_14 := hide (S_13.out.move (w' := w14) fun b _ hlt => hb14.block b hlt)
  have K_14 := hide (agr K_13.out hb14)
  have F_14 := hide (F_13.out.keep hb14)
  have G_14 := hide (G_13.out.keep hb14)
  clear hb14 E_13 B_13 S_13 K_13 F_13 G_13 HNm
  go_wp2_with fail
  refine (HOf.out w14 A1 c1 S_14.out E_14.out).mono ?_
  rintro y w15 ⟨rfl, hb15⟩
  have E_15 := hide (E_14.out.keep hb15)
  have B_15 := hide (B_14.out.trans (hb15.mono B_14.out.size))
  have S_15 := hide (S_14.out.move (w' := w15) fun b _ hlt => hb15.block b hlt)
  have K_15 := hide (agr K_14.out hb15)
  have F_15 := hide (F_14.out.keep hb15)
  have G_15 := hide (G_14.out.keep hb15)
  clear hb15 E_14 B_14 S_14 K_14 F_14 G_14 HOf
  go_wp2
  go_ret
  exact ⟨by simp, B_15.out⟩
end Go.Proofs.YtahcokfoifdlmaaGreatDoor.Tr
namespace Go.Proofs.YtahcokfoifdlmaaGreatDoor.Tr
open Go Go.RowKit Kt Lw Li Lx Df Wr

theorem pin_only {w : World} {l : List Ch} {A : Option Addr} {c : Nat} (h : Chs w A c l) (hl : ∀ f ∈ l, f.path.length ≤ 9223372036854775807 ∧ f.text.length ≤ 9223372036854775807) (hn : l.length ≤ 9223372036854775807) : PIn w (only l) none A 0 c :=
  ⟨⟨Nat.zero_le _, fun h => by simp [texts] at h⟩, h, fun q hq => (by cases hq), hl, Nat.zero_le _, Nat.zero_le _, Nat.zero_le _, hn⟩
theorem only_cgo {l : List Ch} (h : pright (only l) = true) : cgo none l = true := (pright_is h).2.2.2.2.2.1
end Go.Proofs.YtahcokfoifdlmaaGreatDoor.Tr
namespace Go.Proofs.YtahcokfoifdlmaaGreatDoor.Tr
open Go Go.RowKit Go.WideShapes Go.ChangeShapes Go.ChangeAt Go.ChangeMaps Go.Deep Kt Lw Li Df

theorem sides_snoc : ∀ (l : List Ch) (s : List Bool) (c : Ch), sides (l ++ [c]) s = if s.getD l.length false = true then ((sides l s).1 ++ [c], (sides l s).2) else ((sides l s).1, (sides l s).2 ++ [c])
  | [], [], c => by simp [sides]
  | [], b :: s, c => by
    cases b <;> simp [sides]
  | d :: l, [], c => by
    have ih := sides_snoc l [] c
    rw [if_neg (by simp)] at ih ⊢
    rw [List.cons_append, sides, sides, ih]
    rfl
  | d :: l, b :: s, c => by
    have ih := sides_snoc l s c
    rw [List.cons_append, sides, sides, ih, List.length_cons, List.getD_cons_succ]
    by_cases h : s.getD l.length false = true
    · rw [if_pos h, if_pos h]
      cases b <;> rfl
    · rw [if_neg h, if_neg h]
      cases b <;> rfl
theorem sides_take {l : List Ch} {s : List Bool} {k : Nat} {c : Ch} (h : l[k]? = some c) : sides (l.take (k + 1)) s = if s.getD k false = true then ((sides (l.take k) s).1 ++ [c], (sides (l.take k) s).2) else ((sides (l.take k) s).1, (sides (l.take k) s).2 ++ [c]) := by
  have hk := (List.getElem?_eq_some_iff.1 h).1
  have e : l.take (k + 1) = l.take k ++ [c] := by rw [List.take_add_one, h]; rfl
  rw [e, sides_snoc, List.length_take, Nat.min_eq_left (by omega)]
/-- append of one change: where the row lies then -/
theorem wpList_pushC2 {ops : Array Oper} {rest : List Oper} {o : Oper} {a : Act} {Q : Exit → Act → World → Prop} {W : World} (hgd : o.guard = none) (s x : Operand)
    (ho : o.op = .call { callee := .builtin .append, args := #[s, x], argTypes := #[23, 23] })
    (B : Nat) (w0 : World) (v : Value) (L : List Ch) (e : Ch) (cs : Array Value) (hs : a.eval s = v) (hx : a.eval x = .slice (some ⟨W.heap.size, 0, none⟩) 1 1) (hc : cs = (chC e).toArray)
    (hown : OwC W B v L) (hlen : L.length + 1 ≤ 1000000000) (hb : Below B w0 W) (hbase : B ≤ W.heap.size)
    (h : ∀ g cap w', OwC w' B (.slice (some ⟨g, 0, none⟩) (L.length + 1) cap) (L ++ [e]) → Below B w0 w' → W.grownBy w' v.ownBlock → (v.ownBlock = some g ∨ W.heap.size < g) → wpList Tryz.prog ops Q rest (a.put o.dst (.slice (some ⟨g, 0, none⟩) (L.length + 1) cap)) w') : wpList Tryz.prog ops Q (o :: rest) a (W.alloc (.cells cs tC)) := by
  obtain ⟨i0, hi0, hz0, hz1, hz2⟩ := info_parts infoCh
  subst hc
  refine wpList_append_lies _ hgd s x 23 ho B tC i0 (.agg #[.string ⟨#[]⟩, .bool false, .string ⟨#[]⟩]) 3 40 Tryz.underlying23 hi0 hz0 hz1 hz2 rfl (by omega) v L.length (L.flatMap chC) hs (World.ownsRow.alloc hown _)
    ⟨W.heap.size, 0, none⟩ 1 1 (chC e) hx rfl (fun j u hu => ?_) ?_ (by omega) (by unfold maxLen; omega) (by omega) (by simp; omega) _ rfl (fun g cap w' h1 h2 h3 h4 => ?_)
  · rw [Addr.add_mid, (Row.fresh W tC (chC e).toArray).cell]
    simpa using hu
  · intro u hu
    simp only [chC, List.mem_cons, List.not_mem_nil, or_false] at hu
    rcases hu with rfl | rfl | rfl <;> rfl
  · have hg := grownBy_back _ h2
    refine h g cap w' ?_ (hb.grown hg hbase fun k hk => (World.ownsRow.lt hown k hk).1) hg (h3.imp id fun e => by rw [e, World.size_alloc]; exact Nat.lt_succ_self _)
    unfold OwC
    rw [List.length_append, List.flatMap_append]
    exact h1
/-- two rows, apart -/
def Apart (v u : Value) : Prop := ∀ g, v.ownBlock = some g → u.ownBlock ≠ some g
def bools (l : List Bool) : List Value := l.map .bool
section
variable {H : Type} {enc : TypeId × Value → H}
set_option maxRecDepth 100000 in
theorem open_bools {W : World} {base : Nat} {v : Value} {d : DataW H} {ps : List MemPlace}
    (hval : Value.okWide Tryz.prog W .any base 24 v) (h : DataW.Trod enc Tryz.prog W 0 (fun _ => true) true 24 v d ps) :
    ∃ (l : List Bool) (A : Option Addr) (c : Nat), v = .slice A l.length c ∧ Vs W (fun b => b < W.heap.size) A c (bools l) ∧ l.length ≤ maxLen := by
  obtain ⟨a1, len, cap, rfl⟩ := okWide_slice Tryz.underlying24 hval
  obtain ⟨fuel, hf⟩ := h
  rcases open_slice Tryz.underlying24 hf with ⟨hcs, _⟩ | ⟨a, len', cap', m, n, D, Pl, hcs, _, hl, hm, hmm, _, hi⟩
  · simp [Value.cells] at hcs
    obtain ⟨rfl, rfl, rfl⟩ := hcs
    exact ⟨[], none, 0, rfl, ⟨Nat.zero_le _, fun h => by simp [bools] at h⟩, Nat.zero_le _⟩
  · simp [Value.cells] at hcs
    obtain ⟨rfl, rfl, rfl⟩ := hcs
    simp only [if_true] at hmm
    subst hmm
    have hC : Tryz.prog.cellsOf 4 = 1 := by kernel_rfl
    rw [hC] at hi
    have hel : ∀ i, i < len → ∃ e : Bool, W.cell? (a.add i) = some (.bool e) := by
      intro i hil
      obtain ⟨cs', hc, ht⟩ := hi i (by omega)
      obtain ⟨_, hcl, hat⟩ := World.cells?_some hc
      obtain ⟨b, e1, _⟩ := DataW.trod_bool Tryz.underlying4 ht
      have := hat 0 (by omega)
      rw [e1, Nat.mul_one] at this
      refine ⟨b, ?_⟩
      have h0 : ∀ x : Addr, x.add 0 = x := fun x => by unfold Addr.add; split <;> simp_all
      rw [h0] at this
      simpa using this
    obtain ⟨L, hLl, hQ⟩ := list_of _ len hel
    refine ⟨L, some a, m, by rw [hLl], ⟨by simp [bools]; omega, fun hn => ?_⟩, by omega⟩
    have hn' : 0 < len := by simpa [bools, hLl] using hn
    obtain ⟨ab, ao, spot⟩ := a
    obtain ⟨e0, hc0⟩ := hel 0 hn'
    have hspot : spot = none := by simpa [Addr.add] using World.cell?_spot hc0
    subst hspot
    have hlt : ab < W.heap.size := by
      rw [Addr.add_mid] at hc0
      exact World.block_lt_of_cell? W _ hc0
    refine ⟨ab, ao, rfl, hlt, fun j u hu => ?_⟩
    unfold bools at hu
    rw [List.getElem?_map] at hu
    cases hj : L[j]? with
    | none => rw [hj] at hu; cases hu
    | some e =>
      rw [hj] at hu
      have := hQ j e hj
      rw [Addr.add_mid] at this
      rw [this]; exact hu
end
end Go.Proofs.YtahcokfoifdlmaaGreatDoor.Tr
namespace Go.Proofs.YtahcokfoifdlmaaGreatDoor.Rv
open Go Rg

/-- no operation is guarded, and each waits for earlier ones alone, but for what does not bind -/
def plainB (ops : Array Oper) : Bool := (List.range ops.size).all fun i => ((ops[i]?).map fun o => o.guard.isNone && o.after.all fun e => !Region.binds .any e || decide (e.on < i)).getD true
section
variable {F : Fence} {n : Nat} {P : Program} {ops : Array Oper} {Q : Exit → Act → World → Prop}
theorem plainB_spec (hp : plainB ops = true) {i : Nat} {o : Oper} (ho : ops[i]? = some o) : o.guard = none ∧ ∀ e ∈ o.after, Region.binds .any e = true → e.on < i := by
  have hlt : i < ops.size := (Array.getElem?_eq_some_iff.1 ho).1
  have h1 := List.all_eq_true.1 hp i (List.mem_range.2 hlt)
  rw [ho] at h1
  simp only [Option.map_some, Option.getD_some, Bool.and_eq_true, Option.isNone_iff_eq_none] at h1
  refine ⟨h1.1, fun e he hb => ?_⟩
  have := Array.all_eq_true_iff_forall_mem.1 h1.2 e he
  rw [hb] at this
  simpa using this
theorem all_listedB (hp : plainB ops = true) {listed : Array Bool} (hs : listed.size = ops.size) (hr : Region.ready .any ops listed = []) : ∀ n i, i < n → i < ops.size → listed.getD i false = true
  | 0, _, h, _ => absurd h (Nat.not_lt_zero _)
  | n + 1, i, h, hi => by
    cases hb : listed.getD i false with
    | true => rfl
    | false =>
      have ho : ops[i]? = some ops[i] := Array.getElem?_eq_getElem hi
      have hm : i ∈ Region.ready .any ops listed := mem_ready.2 ⟨by rw [get_listed (by omega), hb], ops[i], ho, fun e he hbi => by
        have hlt := (plainB_spec hp ho).2 e he hbi
        exact all_listedB hp hs hr n e.on (by omega) (by omega)⟩
      rw [hr] at hm
      cases hm
theorem any_invIn (hp : plainB ops = true) (I : Array Bool → Act → World → Prop)
    (hstep : ∀ listed a w i o, I listed a w → ops[i]? = some o → listed.getD i true = false → (∀ e ∈ o.after, Region.binds .any e = true → listed.getD e.on false = true) → o.wpIn F n P a w (I (listed.setIfInBounds i true)) Q)
    (hend : ∀ listed a w, I listed a w → (∀ i, i < ops.size → listed.getD i false = true) → Q .normal a w) :
    ∀ (fuel : Nat) (listed : Array Bool) (a : Act) (w : World), listed.size = ops.size → left listed.toList ≤ fuel → I listed a w → wpAnyIn F n P .any ops Q fuel listed a w
  | 0, listed, a, w, hs, hl, hI => by
    have hall : ∀ i, i < ops.size → listed.getD i false = true := fun i hi => by
      have h1 := left_zero listed.toList i (by omega) (by simp; omega)
      have h2 : listed[i]? = some true := by simpa using h1
      simp [h2]
    refine ⟨?_, hend _ _ _ hI hall⟩
    rw [List.eq_nil_iff_forall_not_mem]
    intro i hi
    obtain ⟨h1, o, ho, _⟩ := mem_ready.1 hi
    have hlt : i < ops.size := (Array.getElem?_eq_some_iff.1 ho).1
    have := hall i hlt
    rw [get_listed (by omega), this] at h1
    cases h1
  | fuel + 1, listed, a, w, hs, hl, hI => by
    refine ⟨fun hr => hend _ _ _ hI fun i hi => all_listedB hp hs hr (i + 1) i (by omega) hi, fun i hi => ?_⟩
    obtain ⟨h1, o, ho, hdep⟩ := mem_ready.1 hi
    have hlt : i < ops.size := (Array.getElem?_eq_some_iff.1 ho).1
    have h3 := hstep listed a w i o hI ho h1 hdep
    unfold wpOpIn
    simp only [ho]
    rw [if_pos (by unfold Region.wanted; rw [(plainB_spec hp ho).1])]
    refine Oper.wpIn_mono (fun a' w' h' => any_invIn hp I hstep hend fuel _ a' w' (by simp [hs]) ?_ h') h3
    have h4 : listed.toList[i]? = some false := by
      have hlt' : i < listed.size := by omega
      simp [hlt'] at h1
      simp [hlt', h1]
    have h5 := left_set _ _ h4
    rw [Array.toList_setIfInBounds]
    omega
/-- THE REGION, WALKED BY WHAT HOLDS. -/
theorem wpIn_region_inv {id : Nat} {l : List Oper} {a : Act} {w : World} (I : Array Bool → Act → World → Prop) (hm : P.follows .mixedOrders = true) (hp : plainB l.toArray = true)
    (hstart : I (Array.replicate l.length false) a w.drew)
    (hstep : ∀ listed a w i o, I listed a w → l[i]? = some o → listed.size = l.length → listed.getD i false = false → (∀ k, Rg.waits l.toArray i k = true → listed.getD k false = true) →
      ∀ K : Act → World → Prop, (∀ a' w', I (listed.setIfInBounds i true) a' w' → K a' w') → o.wpIn F n P a w K Q)
    (hend : ∀ listed a w, I listed a w → (∀ i, i < l.length → listed.getD i false = true) → Q .normal a w) : (Code.region id l.toArray true).wpIn F n P Q a w := by
  refine wpIn_region_any hm ?_
  refine any_invIn hp (fun listed a w => listed.size = l.length ∧ I listed a w) (fun listed a w i o hI ho hnl hdep => ?_) (fun listed a w hI hl => hend listed a w hI.2 (by simpa using hl)) _ _ _ _ (by simp) ?_ ⟨by simp, by simpa using hstart⟩
  · refine hstep listed a w i o hI.2 (by simpa using ho) hI.1 (by rw [← get_listed (by rw [hI.1]; have := (Array.getElem?_eq_some_iff.1 ho).1; simpa using this)]; exact hnl) (fun k hk => ?_) _ fun a' w' h => ⟨by simp [hI.1], h⟩
    obtain ⟨e, he, hb, rfl⟩ := Rg.waits_spec ho hk
    exact hdep e he hb
  · have := left_le (Array.replicate l.toArray.size false).toList
    simpa using this
end
end Go.Proofs.YtahcokfoifdlmaaGreatDoor.Rv
