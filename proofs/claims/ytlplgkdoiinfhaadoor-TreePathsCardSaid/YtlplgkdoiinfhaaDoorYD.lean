/-
  Whether any path can be, any tree is right, its form and its name: the law TreePaths.
-/
import Derived.BigQuiet
import Derived.Test.YtlplgkdoiinfhaaDoorYA
import Derived.Test.YtlplgkdoiinfhaaDoorQ6
namespace Go.Proofs.YtlplgkdoiinfhaaDoor.Tr
open Go Go.RowKit Kt Lw Li Lx Df Wr

theorem flat_few : ∀ {t : List Fl}, (∀ f ∈ t, f.path.length ≤ 600 ∧ f.text.length ≤ 600) → (t.flatMap fFl).length ≤ 20 * t.length + sizes t
  | [], _ => by simp
  | f :: t, h => by
    have ih := flat_few (t := t) fun g hg => h g (by simp [hg])
    have hf := h f (by simp)
    have h1 := form_ten (n := f.path.length) (by omega)
    have h2 := form_ten (n := f.text.length) (by omega)
    rw [List.flatMap_cons, List.length_append, List.length_cons, sizes]
    have : (fFl f).length = (form f.path.length).length + (f.path.length + ((form f.text.length).length + f.text.length)) := by unfold fFl; simp
    omega
theorem few_enc {t : List Fl} (h : fewB t = true) : (encode t).1.length ≤ 4000 := by
  have hs := few_is h
  unfold fewB at h
  rw [Bool.and_eq_true, decide_eq_true_eq, decide_eq_true_eq, List.take_of_length_le (by omega)] at h
  have h1 := flat_few (t := t) fun f hf => by have := hs.2 f hf; omega
  have h2 := form_ten (n := t.length) (by omega)
  unfold encode
  split
  · show (enc t).length ≤ 4000
    unfold enc
    rw [List.length_append]; omega
  · simp
set_option maxRecDepth 100000 in
set_option maxHeartbeats 8000000 in
theorem lawPaths_any (p : Bs) (t : List Fl) (A : Option Addr) (c : Nat) (w : World) (hs : Fls w A c t) (hE : Env w) (hm : ∀ f ∈ t, f.path.length ≤ 9223372036854775807 ∧ f.text.length ≤ 9223372036854775807) (hn : t.length ≤ 9223372036854775807) (hp : p.length ≤ 9223372036854775807) :
    Calls Tryd.prog 3 #[.string ⟨p.toArray⟩, .slice A t.length c] w fun y w' => y = .returned (.bool true) ∧ Below w.heap.size w w' := by
  have Hs := hide hs
  have HE := hide hE
  have HFew := hide (fun (wz : World) (h : Fls wz A c t) => few_any t A c wz h)
  have HEn := hide (fun (wz : World) (h : Fls wz A c t) (hE : Env wz) => tencode_any t A c wz h hE.most (fun f hf => (hm f hf).1) hn)
  have HRt := hide (fun (wz : World) (h : Fls wz A c t) (hE : Env wz) => tright_any t A c wz h hE.most (fun f hf => (hm f hf).1) hn)
  have HNm := hide (fun (wz : World) (h : Fls wz A c t) (hE : Env wz) => tname_any t A c wz h hE.most (fun f hf => (hm f hf).1) hn hE.tab)
  have HEr := hide (fun (hl : t.length ≤ 12) (wz : World) (h : Fls wz A c t) => rencode_any t A c wz h (by omega) (fun f hf => (hm f hf).1))
  have HRr := hide (fun (hl : t.length ≤ 12) (wz : World) (h : Fls wz A c t) => rright_any t A c wz h (by omega) (fun f hf => (hm f hf).1))
  have HNr := hide (fun (hl : t.length ≤ 12) (he : (encode t).1.length ≤ 4000) (wz : World) (h : Fls wz A c t) (hE : Env wz) => rname_any t A c wz h (by omega) (fun f hf => (hm f hf).1) he hE.tabR)
  have HP := hide (fun (wz : World) (hE : Env wz) => path_any p wz hE.most hp)
  have HPr := hide (fun (wz : World) => rpath_any p wz hp)
  have HBy := hide (fun (he : (encode t).1.length ≤ 4000) (wz : World) A1 A2 c1 c2 (h1 : Sl wz (fun _ => True) A1 c1 (encode t).1) (h2 : Sl wz (fun _ => True) A2 c2 (encode t).1) => bytes_any (encode t).1 (encode t).1 A1 A2 c1 c2 _ _ wz h1 h2 (by omega))
  have HFe := hide (fun h => few_enc (t := t) h)
  have HFi := hide (fun h => (few_is (t := t) h).1)
  obtain ⟨N, hN⟩ : ∃ N, N = t.length := ⟨_, rfl⟩
  rw [← hN] at HFew HEn HRt HNm HEr HRr HNr HFi ⊢
  generalize (encode t).1 = X at *
  generalize (encode t).2 = e at *
  generalize can p = cp at *
  generalize right t = rt at *
  generalize name t = nm at *
  generalize fewB t = fb at *
  clear hs hE hm hn hN
  go_enter Tryd.func3, Tryd.ntmps3
  have E_0 := hide (HE.out)
  have B_0 := hide (Below.refl w.heap.size w)
  have F_0 := hide (Hs.out)
  clear Hs HE
  go_wp2_with fail
  refine (wake_any w E_0.out).mono ?_
  rintro y w1 ⟨rfl, hb1⟩
  have E_1 := hide (E_0.out.keep hb1)
  have B_1 := hide (B_0.out.trans (hb1.mono B_0.out.size))
  have F_1 := hide (F_0.out.keep hb1)
  clear hb1 E_0 B_0 F_0
  go_wp2_with fail
  refine (HFew.out w1 F_1.out).mono ?_
  rintro y w2 ⟨rfl, hb2⟩
  have E_2 := hide (E_1.out.keep hb2)
  have B_2 := hide (B_1.out.trans (hb2.mono B_1.out.size))
  have F_2 := hide (F_1.out.keep hb2)
  clear hb2 E_1 B_1 F_1 HFew
  by_cases hlong : 300 < p.length
  · have d1 : decide (300 < (p.length : Int)) = true := decide_eq_true (by omega)
    have d2 : decide (300 < p.length) = true := decide_eq_true hlong
    clear hlong
    go_wp2
    go_ret
    exact ⟨rfl, B_2.out⟩
  · have d1 : decide (300 < (p.length : Int)) = false := decide_eq_false (by omega)
    have d2 : decide (300 < p.length) = false := decide_eq_false hlong
    clear hlong
    cases fb with
    | false =>
      go_wp2
      go_ret
      exact ⟨rfl, B_2.out⟩
    | true =>
      have H12 := HFi.out rfl
      have H4 := HFe.out rfl
      have HEr2 := hide (HEr.out H12)
      have HRr2 := hide (HRr.out H12)
      have HNr2 := hide (HNr.out H12 H4)
      have HBy2 := hide (HBy.out H4)
      clear H12 H4 HEr HRr HNr HBy HFe HFi
      go_wp2_with fail
      refine (HEn.out w2 F_2.out E_2.out).mono ?_
      rintro y w3 ⟨v3, rfl, hown3, hb3⟩
      obtain ⟨A3, c3, rfl, hs3⟩ := hown3.sl
      have E_3 := hide (E_2.out.keep hb3)
      have B_3 := hide (B_2.out.trans (hb3.mono B_2.out.size))
      have F_3 := hide (F_2.out.keep hb3)
      have X_3 := hide (hs3.imp (Q := fun _ => True) fun _ _ _ => trivial)
      clear hb3 E_2 B_2 F_2 hown3 hs3 HEn
      go_wp2_with fail
      refine (HEr2.out w3 F_3.out).mono ?_
      rintro y w4 ⟨v4, rfl, hown4, hb4⟩
      obtain ⟨A4, c4, rfl, hs4⟩ := hown4.sl
      have E_4 := hide (E_3.out.keep hb4)
      have B_4 := hide (B_3.out.trans (hb4.mono B_3.out.size))
      have F_4 := hide (F_3.out.keep hb4)
      have X_4 := hide (X_3.out.move (w' := w4) fun b _ hlt => hb4.block b hlt)
      have Y_4 := hide (hs4.imp (Q := fun _ => True) fun _ _ _ => trivial)
      clear hb4 E_3 B_3 F_3 X_3 hown4 hs4 HEr2
      go_wp2_with fail
      refine (HP.out w4 E_4.out).mono ?_
      rintro y w5 ⟨rfl, hb5⟩
      have E_5 := hide (E_4.out.keep hb5)
      have B_5 := hide (B_4.out.trans (hb5.mono B_4.out.size))
      have F_5 := hide (F_4.out.keep hb5)
      have X_5 := hide (X_4.out.move (w' := w5) fun b _ hlt => hb5.block b hlt)
      have Y_5 := hide (Y_4.out.move (w' := w5) fun b _ hlt => hb5.block b hlt)
      clear hb5 E_4 B_4 F_4 X_4 Y_4 HP
      go_wp2_with fail
      refine (HPr.out w5).mono ?_
      rintro y wz ⟨rfl, hz⟩
      rw [hz]
      clear HPr hz
      go_wp2_with fail
      refine (HRt.out w5 F_5.out E_5.out).mono ?_
      rintro y w6 ⟨rfl, hb6⟩
      have E_6 := hide (E_5.out.keep hb6)
      have B_6 := hide (B_5.out.trans (hb6.mono B_5.out.size))
      have F_6 := hide (F_5.out.keep hb6)
      have X_6 := hide (X_5.out.move (w' := w6) fun b _ hlt => hb6.block b hlt)
      have Y_6 := hide (Y_5.out.move (w' := w6) fun b _ hlt => hb6.block b hlt)
      clear hb6 E_5 B_5 F_5 X_5 Y_5 HRt
      go_wp2_with fail
      refine (HRr2.out w6 F_6.out).mono ?_
      rintro y w7 ⟨rfl, hb7⟩
      have E_7 := hide (E_6.out.keep hb7)
      have B_7 := hide (B_6.out.trans (hb7.mono B_6.out.size))
      have F_7 := hide (F_6.out.keep hb7)
      have X_7 := hide (X_6.out.move (w' := w7) fun b _ hlt => hb7.block b hlt)
      have Y_7 := hide (Y_6.out.move (w' := w7) fun b _ hlt => hb7.block b hlt)
      clear hb7 E_6 B_6 F_6 X_6 Y_6 HRr2
      go_wp2_with fail
      refine (HBy2.out w7 A3 A4 c3 c4 X_7.out Y_7.out).mono ?_
      rintro y w8 ⟨rfl, hb8⟩
      have E_8 := hide (E_7.out.keep hb8)
      have B_8 := hide (B_7.out.trans (hb8.mono B_7.out.size))
      have F_8 := hide (F_7.out.keep hb8)
      clear hb8 E_7 B_7 F_7 X_7 Y_7 HBy2
      go_wp2_with fail
      refine (HNm.out w8 F_8.out E_8.out).mono ?_
      rintro y w9 ⟨rfl, hb9⟩
      have E_9 := hide (E_8.out.keep hb9)
      have B_9 := hide (B_8.out.trans (hb9.mono B_8.out.size))
      have F_9 := hide (F_8.out.keep hb9)
      clear hb9 E_8 B_8 F_8 HNm
      go_wp2_with fail
      refine (HNr2.out w9 F_9.out E_9.out).mono ?_
      rintro y w10 ⟨rfl, hb10⟩
      have E_10 := hide (E_9.out.keep hb10)
      have B_10 := hide (B_9.out.trans (hb10.mono B_9.out.size))
      have F_10 := hide (F_9.out.keep hb10)
      clear hb10 E_9 B_9 F_9 HNr2
      go_wp2
      go_ret
      exact ⟨by simp, B_10.out⟩
end Go.Proofs.YtlplgkdoiinfhaaDoor.Tr
