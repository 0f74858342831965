/-
  trees: the laws' own example.
-/
import Derived.BigQuiet
import Derived.Test.YtlplgkdoiinfhaaDoorQ8
import Derived.Test.YtlplgkdoiinfhaaDoorQ15
import Derived.Test.YtlplgkdoiinfhaaDoorQ20
import Derived.Test.YtlplgkdoiinfhaaDoorWK
namespace Go.Proofs.YtlplgkdoiinfhaaDoor.Tr
open Go Go.RowKit Kt Lw Li Lx Df Wr

/-- what the library's variables, and the tables, hold -/
structure Env (w : World) : Prop where
  most : Most w
  tab : Dg.Tab w
  tabR : Dg.TabR w
theorem Env.keep {w w' : World} (h : Env w) (hb : Below w.heap.size w w') : Env w' := ⟨h.most.keep hb, h.tab.below hb, h.tabR.below hb⟩
def f0 : Fl := ⟨[97], [98]⟩
def b0 : Bs := [1, 1, 97, 1, 98]
theorem e_put : put [] f0 = ([f0], 0) := by decide +kernel
theorem e_enc : encode [f0] = (b0, 0) := by decide +kernel
theorem e_dec : decode b0 = ([f0], 0) := by decide +kernel
theorem e_get : get [f0] [97] = ([98], true) := by decide +kernel
theorem e_drop : drop [f0] [97] = [] := by decide +kernel
theorem e_go : go none [f0] = true := by decide +kernel
theorem e_right : right [f0] = true := by decide +kernel
theorem e_path : can [97, 47, 98] = true := by decide +kernel
theorem e_name : name [f0] = Sha.sha b0 := by
  have h : enc [f0] = b0 := by
    have := e_enc
    unfold encode at this
    rw [if_pos e_right] at this
    exact congrArg Prod.fst this
  unfold name
  rw [if_pos e_right, h]
theorem lit5 (w : World) : Sl (w.alloc (.cells #[.int .u8 1, .int .u8 1, .int .u8 97, .int .u8 1, .int .u8 98] 5)) (fun _ => True) (some ⟨w.heap.size, 0, none⟩) 5 b0 :=
  ⟨Nat.le_refl _, fun _ => ⟨w.heap.size, 0, rfl, trivial, fun j hj => by
    rw [Nat.zero_add, (Row.fresh w _ _).cell]
    rcases j with _ | _ | _ | _ | _ | j
    · rfl
    · rfl
    · rfl
    · rfl
    · rfl
    · simp [b0] at hj; omega⟩⟩
set_option maxRecDepth 100000 in
set_option maxHeartbeats 4000000 in
theorem wake_any (w : World) (hE : Env w) : Calls Tryd.prog 10 #[] w fun y w' => y = .returned (.bool true) ∧ Below w.heap.size w w' := by
  have HE := hide hE
  have hP := tput_any [] f0 none 0 w (Fls.nil _ _ _) hE.most (by simp) (by decide) (q := none) rfl
  rw [e_put] at hP
  have HP := hide hP
  have HEn := hide (fun (wz : World) A c (hs : Fls wz A c [f0]) (hE : Env wz) => by
    have := tencode_any [f0] A c wz hs hE.most (fun f hf => by rw [List.mem_singleton.1 hf]; decide) (by decide)
    rw [e_enc] at this
    exact this)
  have HD := hide (fun (wz : World) A c (hs : Sl wz (fun _ => True) A c b0) (hE : Env wz) => by
    have := tdecode_any b0 A c _ wz hs hE.most (by decide)
    rw [e_dec] at this
    exact this)
  have HG := hide (fun (wz : World) A c (hs : Fls wz A c [f0]) => by
    have := tget_any [f0] [97] A c wz hs (by decide) e_go
    rw [e_get] at this
    exact this)
  have HDr := hide (fun (wz : World) A c (hs : Fls wz A c [f0]) => by
    have := tdrop_any [f0] [97] A c wz hs (by decide) e_go
    rw [e_drop] at this
    exact this)
  have HNm := hide (fun (wz : World) A c (hs : Fls wz A c [f0]) (hE : Env wz) => by
    have := tname_any [f0] A c wz hs hE.most (fun f hf => by rw [List.mem_singleton.1 hf]; decide) (by decide) hE.tab
    rw [e_name] at this
    exact this)
  have HOf := hide (fun (wz : World) A c (hs : Sl wz (fun _ => True) A c b0) (hE : Env wz) => Dg.rof_any b0 A c _ wz hs (by decide) hE.tabR)
  have HPa := hide (fun (wz : World) (hE : Env wz) => by
    have := path_any [97, 47, 98] wz hE.most (by decide)
    rw [e_path] at this
    exact this)
  have HBy := hide (fun (wz : World) A A' c c' (hs : Sl wz (fun _ => True) A c b0) (hs' : Sl wz (fun _ => True) A' c' b0) => bytes_any b0 b0 A A' c c' _ _ wz hs hs' (by decide))
  generalize hsh : Sha.sha b0 = sh at HNm HOf
  clear hsh hP hE
  go_enter Tryd.func10, Tryd.ntmps10
  have E_0 := hide (HE.out)
  have B_0 := hide (Below.refl w.heap.size w)
  go_wp2_with fail
  refine (HP.out).mono ?_
  rintro y w1 ⟨v1, rfl, hown1, hb1⟩
  obtain ⟨A1, c1, rfl, hf1⟩ := hown1.fls
  have E_1 := hide (E_0.out.keep hb1)
  have B_1 := hide (B_0.out.trans (hb1.mono B_0.out.size))
  have F_1 := hide (hf1)
  clear hb1 E_0 B_0 hown1 hf1 HP
  go_wp2_with fail
  refine (HEn.out w1 A1 c1 F_1.out E_1.out).mono ?_
  rintro y w2 ⟨v2, rfl, hown2, hb2⟩
  obtain ⟨A2, c2, rfl, hs2⟩ := hown2.sl
  have E_2 := hide (E_1.out.keep hb2)
  have B_2 := hide (B_1.out.trans (hb2.mono B_1.out.size))
  have F_2 := hide (F_1.out.keep hb2)
  have S_2 := hide (hs2.imp (Q := fun _ => True) fun _ _ _ => trivial)
  clear hb2 E_1 B_1 F_1 hown2 hs2 HEn
  go_wp2_with fail
  refine (HD.out w2 A2 c2 S_2.out E_2.out).mono ?_
  rintro y w3 ⟨v3, rfl, hown3, hb3⟩
  obtain ⟨A3, c3, rfl, _⟩ := hown3.fls
  have E_3 := hide (E_2.out.keep hb3)
  have B_3 := hide (B_2.out.trans (hb3.mono B_2.out.size))
  have F_3 := hide (F_2.out.keep hb3)
  have S_3 := hide (S_2.out.move (w' := w3) fun b _ hlt => hb3.block b hlt)
  clear hb3 E_2 B_2 F_2 S_2 hown3 HD
  go_wp2_with fail
  refine (HG.out w3 A1 c1 F_3.out).mono ?_
  rintro y w4 ⟨rfl, hb4⟩
  have E_4 := hide (E_3.out.keep hb4)
  have B_4 := hide (B_3.out.trans (hb4.mono B_3.out.size))
  have F_4 := hide (F_3.out.keep hb4)
  have S_4 := hide (S_3.out.move (w' := w4) fun b _ hlt => hb4.block b hlt)
  clear hb4 E_3 B_3 F_3 S_3 HG
  go_wp2_with fail
  refine (HDr.out w4 A1 c1 F_4.out).mono ?_
  rintro y w5 ⟨v5, rfl, hown5, hb5⟩
  obtain ⟨A5, c5, rfl, _⟩ := hown5.fls
  have E_5 := hide (E_4.out.keep hb5)
  have B_5 := hide (B_4.out.trans (hb5.mono B_4.out.size))
  have F_5 := hide (F_4.out.keep hb5)
  have S_5 := hide (S_4.out.move (w' := w5) fun b _ hlt => hb5.block b hlt)
  clear hb5 E_4 B_4 F_4 S_4 hown5 HDr
  go_wp2_with fail
  have hlit := lit5 w5
  have hb6 := (Below.refl w5.heap.size w5).alloc (Nat.le_refl _) (.cells #[.int .u8 1, .int .u8 1, .int .u8 97, .int .u8 1, .int .u8 98] 5)
  obtain ⟨q5, hq5⟩ : ∃ q5, q5 = w5.heap.size := ⟨_, rfl⟩
  obtain ⟨w6, hw6⟩ : ∃ w6, w6 = w5.alloc (.cells #[.int .u8 1, .int .u8 1, .int .u8 97, .int .u8 1, .int .u8 98] 5) := ⟨_, rfl⟩
  rw [← hw6] at hlit hb6 ⊢
  rw [← hq5] at hlit ⊢
  have Hq5 := hide hq5
  clear hw6 hq5
  have E_6 := hide (E_5.out.keep hb6)
  have B_6 := hide (B_5.out.trans (hb6.mono B_5.out.size))
  have F_6 := hide (F_5.out.keep hb6)
  have S_6 := hide (S_5.out.move (w' := w6) fun b _ hlt => hb6.block b hlt)
  have L_6 := hide (hlit)
  clear hb6 E_5 B_5 F_5 S_5 hlit
  refine (HBy.out w6 A2 _ c2 _ S_6.out L_6.out).mono ?_
  rintro y w7 ⟨rfl, hb7⟩
  have E_7 := hide (E_6.out.keep hb7)
  have B_7 := hide (B_6.out.trans (hb7.mono B_6.out.size))
  have F_7 := hide (F_6.out.keep hb7)
  have S_7 := hide (S_6.out.move (w' := w7) fun b _ hlt => hb7.block b hlt)
  clear hb7 E_6 B_6 F_6 S_6 L_6 HBy
  go_wp2_with fail
  refine (HNm.out w7 A1 c1 F_7.out E_7.out).mono ?_
  rintro y w8 ⟨rfl, hb8⟩
  have E_8 := hide (E_7.out.keep hb8)
  have B_8 := hide (B_7.out.trans (hb8.mono B_7.out.size))
  have S_8 := hide (S_7.out.move (w' := w8) fun b _ hlt => hb8.block b hlt)
  clear hb8 E_7 B_7 F_7 S_7 HNm
  go_wp2_with fail
  refine (HOf.out w8 A2 c2 S_8.out E_8.out).mono ?_
  rintro y w9 ⟨rfl, hb9⟩
  have E_9 := hide (E_8.out.keep hb9)
  have B_9 := hide (B_8.out.trans (hb9.mono B_8.out.size))
  clear hb9 E_8 B_8 S_8 HOf
  go_wp2_with fail
  refine (HPa.out w9 E_9.out).mono ?_
  rintro y w10 ⟨rfl, hb10⟩
  have B_10 := hide (B_9.out.trans (hb10.mono B_9.out.size))
  clear hb10 E_9 B_9 HPa
  go_wp2
  go_ret
  exact ⟨by simp, B_10.out⟩
end Go.Proofs.YtlplgkdoiinfhaaDoor.Tr
