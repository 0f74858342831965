/-
  The reference of trees: a tree's name.
-/
import Derived.BigQuiet
import Derived.Test.YtlplgkdoiinfhaaDoorQ10
import Derived.Test.YtlplgkdoiinfhaaDoorRfE
import Derived.Test.YtlplgkdoiinfhaaDoorQ7
import Derived.Test.YtlplgkdoiinfhaaDoorQ12
namespace Go.Proofs.YtlplgkdoiinfhaaDoor.Tr
open Go Go.RowKit Kt Lw Li Lx Df Wr

def name (t : List Fl) : Bs := if right t then Sha.sha (enc t) else []
set_option maxRecDepth 100000 in
set_option maxHeartbeats 1000000 in
theorem rname_any (t : List Fl) (A : Option Addr) (c : Nat) (w : World) (hs : Fls w A c t) (hn : t.length ≤ 100000) (hm : ∀ f ∈ t, f.path.length ≤ 9223372036854775807) (hl : (encode t).1.length ≤ 4000) (ht : Dg.TabR w) :
    Calls Tryd.prog 20 #[.slice A t.length c] w fun y w' => y = .returned (.string ⟨(name t).toArray⟩) ∧ Below w.heap.size w w' := by
  have HE := hide (rencode_any t A c w hs hn hm)
  have Ht := hide ht
  obtain ⟨N, hN⟩ : ∃ N, N = t.length := ⟨_, rfl⟩
  rw [← hN] at HE ⊢
  have Hl := hide hl
  clear hs hn hm hN ht hl
  cases hr : right t with
  | false =>
    have Hnm := hide (show name t = [] by unfold name; rw [hr]; rfl)
    have he : encode t = ([], 1) := by unfold encode; rw [hr]; rfl
    rw [he] at HE
    clear hr he
    go_enter Tryd.func20, Tryd.ntmps20
    go_wp2_with fail
    refine HE.out.mono ?_
    rintro y w1 ⟨v1, rfl, hown1, hb1⟩
    have Hb1 := hide hb1
    clear hb1 HE hown1
    go_wp2
    go_ret
    exact ⟨by rw [Hnm.out]; rfl, Hb1.out⟩
  | true =>
    have Hnm := hide (show name t = Sha.sha (enc t) by unfold name; rw [hr]; rfl)
    have he : encode t = (enc t, 0) := by unfold encode; rw [hr]; rfl
    rw [he] at HE Hl
    clear hr he
    generalize enc t = bs at *
    go_enter Tryd.func20, Tryd.ntmps20
    go_wp2_with fail
    refine HE.out.mono ?_
    rintro y w1 ⟨v1, rfl, hown1, hb1⟩
    obtain ⟨A1, c1, rfl, hsl⟩ := hown1.sl
    have HO := hide (Dg.rof_any bs A1 c1 _ w1 hsl Hl.out (Ht.out.below hb1))
    obtain ⟨nb, hnb⟩ : ∃ z, z = bs.length := ⟨_, rfl⟩
    rw [← hnb] at HO ⊢
    have Hb1 := hide hb1
    clear hb1 HE hown1 hsl hnb
    go_wp2_with fail
    refine HO.out.mono ?_
    rintro y w2 ⟨rfl, hb2⟩
    have Hb2 := hide (Hb1.out.trans (hb2.mono Hb1.out.size))
    clear hb2 HO
    go_wp2
    go_ret
    exact ⟨by rw [Hnm.out]; rfl, Hb2.out⟩
end Go.Proofs.YtlplgkdoiinfhaaDoor.Tr
namespace Go.Proofs.YtlplgkdoiinfhaaDoor.Tr
open Go Go.RowKit Kt Lw Li Lx Df Wr

set_option maxRecDepth 100000 in
set_option maxHeartbeats 4000000 in
theorem form_any (t : List Fl) (A : Option Addr) (c : Nat) (w : World) (hs : Fls w A c t) (hsh : ∀ f ∈ t, f.path.length ≤ 200 ∧ f.text.length ≤ 65536) (hn : t.length ≤ 1000) :
    Calls Tryd.prog 31 #[.slice A t.length c, .func (.func 32) #[] #[]] w fun y w' => ∃ v, y = .returned v ∧ Own w' w.heap.size 5 v (enc t) ∧ Below w.heap.size w w' := by
  have Hs := hide hs
  have Hsh := hide hsh
  obtain ⟨N, hN⟩ : ∃ N, N = t.length := ⟨_, rfl⟩
  rw [← hN] at hn ⊢
  have HN := hide hN
  have He := hide (show enc t = form N ++ t.flatMap fFl by unfold enc; rw [hN])
  rw [He.out]
  have HNum := hide (fun w1 => num_any [] N none 0 (fun _ => True) w1 ⟨Nat.zero_le _, fun h => by simp at h⟩ (by omega) (by simp))
  have hcv : IntKind.u64.wrap (N : Int) = (N : Int) := by
    have := IntWalk.u64_in (n := (N : Int)) (by omega)
    exact this
  clear hs hsh hN
  go_enter Tryd.func31, Tryd.ntmps31
  go_wp2_with fail
  refine (HNum.out w).mono ?_
  rintro y w2 ⟨v2, rfl, hown2, hb2⟩
  have Hown2 := hide hown2
  have Hb2 := hide hb2
  clear hown2 hb2 HNum hcv
  go_wp2_with fail
  go_loopw [5, 14] (fun s i wr => ∃ (k : Nat) (v0 : Value), v0 = s ∧ k ≤ N ∧ i = .int .i64 k ∧ Own wr w.heap.size 5 v0 (form N ++ (t.take k).flatMap fFl) ∧ Below w.heap.size w wr) (fun _ i _ => N - (intOf i).toNat)
  case atStart => exact ⟨0, _, rfl, Nat.zero_le _, rfl, by simpa using Hown2.out, Hb2.out⟩
  case round =>
    obtain ⟨k, v, rfl, hk, rfl, hown, hb⟩ := hrel
    clear Hown2 Hb2
    have Hb := hide hb
    have Hown := hide hown
    clear hb hown
    by_cases hlt : k < N
    · obtain ⟨b, o, f, rfl, hbl, hf, hd, d0, d1⟩ := Hs.out.at (w' := wr) Hb.out (k := k) (by have := HN.out; omega)
      have hft := Hsh.out f (List.mem_of_getElem? hf)
      have Htk := hide (show form N ++ (t.take (k + 1)).flatMap fFl = (form N ++ (t.take k).flatMap fFl) ++ fFl f by
        rw [take_snocF hf, List.flatMap_append]; simp)
      have hlen := enc_le (t := t.take k) fun g hg => Hsh.out g (List.mem_of_mem_take hg)
      have hlen2 : (t.take k).length ≤ 1000 := by rw [List.length_take]; omega
      have h10 := form_ten (n := N) (by omega)
      have hfl := fFl_le hft
      have hbL : (form N ++ (t.take k).flatMap fFl).length ≤ 70000000 := by
        rw [List.length_append]
        have := Nat.mul_le_mul_right 65756 hlen2
        omega
      obtain ⟨bs, hbs⟩ : ∃ bs, bs = form N ++ (t.take k).flatMap fFl := ⟨_, rfl⟩
      rw [← hbs] at Hown Htk hbL
      obtain ⟨p, x⟩ := f
      simp only at d0 d1 hft
      obtain ⟨l, hl⟩ : ∃ l, l = fFl ⟨p, x⟩ := ⟨_, rfl⟩
      have HF := hide (fun wz => file_any p x wz hft.1 hft.2)
      rw [← hl] at HF Htk hfl
      have hrow := Row.fresh wr tF #[.string ⟨p.toArray⟩, .string ⟨x.toArray⟩]
      have ho1 := (Below.refl wr.heap.size wr).alloc (Nat.le_refl _) (.cells #[.string ⟨p.toArray⟩, .string ⟨x.toArray⟩] tF)
      have c0 := hrow.cell 0
      have c1 := hrow.cell 1
      simp only [List.getElem?_cons_zero, List.getElem?_cons_succ] at c0 c1
      have Hlen := hide (show bs.length + l.length ≤ 70368744177664 by omega)
      have HbA := hide (Hb.out.alloc Hb.out.size (.cells #[.string ⟨p.toArray⟩, .string ⟨x.toArray⟩] tF))
      have HownA := hide (Hown.out.kept ho1)
      clear hf hd hbl hlen hlen2 h10 hfl hbL hbs hl hrow ho1 hft Hown
      go_wp2_with fail
      refine (HF.out _).mono ?_
      rintro y w4 ⟨v4, rfl, hown4, hb4⟩
      have Hb4 := hide (HbA.out.trans (hb4.mono HbA.out.size))
      have HownB := hide (HownA.out.kept hb4)
      obtain ⟨A4, c4, rfl, hsl4⟩ := hown4.sl
      have Hsl4 := hide hsl4
      clear hown4 hb4 hsl4 HF HownA c0 c1 d0 d1
      rename_i KK hKK
      refine hKK _ _ ?_
      clear hKK KK
      refine wpList_cat rfl (.tmp 18) (.tmp 21) 25 rfl Tryd.underlying25 info8 w.heap.size w _ bs l _ A4 c4 rfl rfl HownB.out Hsl4.out Hlen.out Hb4.out Hb4.out.size ?_
      intro v5 w5 hown5 hb5 _
      have Hown5 := hide hown5
      have Hb5 := hide hb5
      clear hown5 hb5
      go_wp2
      exact ⟨⟨k + 1, _, rfl, by omega, by go_num, by rw [Htk.out]; exact Hown5.out, Hb5.out⟩, by simp [intOf]; omega⟩
    · obtain rfl : k = N := by omega
      have hown := Hown.out
      rw [HN.out, List.take_length, ← HN.out] at hown
      have Hown9 := hide hown
      clear hown Hown
      go_wp2
      go_ret
      exact ⟨_, rfl, Hown9.out, Hb.out⟩
set_option maxRecDepth 100000 in
set_option maxHeartbeats 1000000 in
theorem tencode_any (t : List Fl) (A : Option Addr) (c : Nat) (w : World) (hs : Fls w A c t) (hE : Most w) (hm : ∀ f ∈ t, f.path.length ≤ 9223372036854775807) (hn : t.length ≤ 9223372036854775807) :
    Calls Tryd.prog 12 #[.slice A t.length c] w fun y w' => ∃ v, y = .returned (.tuple #[v, .int .i64 ((encode t).2 : Nat)]) ∧ Own w' w.heap.size 5 v (encode t).1 ∧ Below w.heap.size w w' := by
  have HR := hide (tright_any t A c w hs hE hm hn)
  cases hr : right t with
  | false =>
    obtain ⟨N, hN⟩ : ∃ N, N = t.length := ⟨_, rfl⟩
    rw [← hN] at HR ⊢
    have He := hide (show encode t = ([], 1) by unfold encode; rw [hr]; rfl)
    rw [hr] at HR
    rw [He.out]
    clear hs hm hN hr
    go_enter Tryd.func12, Tryd.ntmps12
    go_wp2_with fail
    refine HR.out.mono ?_
    rintro y w1 ⟨rfl, hb1⟩
    have Hb1 := hide hb1
    clear hb1 HR
    go_wp2
    go_ret2
    exact ⟨_, rfl, Own.nil _ _ _, Hb1.out⟩
  | true =>
    have HF := hide (fun wz (hb : Below w.heap.size w wz) => form_any t A c wz (hs.keep hb) (right_short hr) (right_go hr).2)
    obtain ⟨N, hN⟩ : ∃ N, N = t.length := ⟨_, rfl⟩
    rw [← hN] at HR HF ⊢
    have He := hide (show encode t = (enc t, 0) by unfold encode; rw [hr]; rfl)
    rw [hr] at HR
    rw [He.out]
    clear hs hm hN hr
    go_enter Tryd.func12, Tryd.ntmps12
    go_wp2_with fail
    refine HR.out.mono ?_
    rintro y w1 ⟨rfl, hb1⟩
    have Hb1 := hide hb1
    clear hb1 HR
    go_wp2_with fail
    refine (HF.out w1 Hb1.out).mono ?_
    rintro y w2 ⟨v2, rfl, hown2, hb2⟩
    have Hown2 := hide (own_based hown2 Hb1.out.size)
    have Hb2 := hide (Hb1.out.trans (hb2.mono Hb1.out.size))
    clear hown2 hb2 HF
    go_wp2
    go_ret2
    exact ⟨_, rfl, Hown2.out, Hb2.out⟩
set_option maxRecDepth 100000 in
set_option maxHeartbeats 1000000 in
theorem tname_any (t : List Fl) (A : Option Addr) (c : Nat) (w : World) (hs : Fls w A c t) (hE : Most w) (hm : ∀ f ∈ t, f.path.length ≤ 9223372036854775807) (hn : t.length ≤ 9223372036854775807) (ht : Dg.Tab w) :
    Calls Tryd.prog 19 #[.slice A t.length c] w fun y w' => y = .returned (.string ⟨(name t).toArray⟩) ∧ Below w.heap.size w w' := by
  have HE := hide (tencode_any t A c w hs hE hm hn)
  have Ht := hide ht
  have hl : (encode t).1.length ≤ 70000000 := by
    unfold encode
    split
    · next h =>
      have h1 := enc_le (right_short h)
      have h2 := (right_go h).2
      have h3 := form_ten (n := t.length) (by omega)
      unfold enc
      rw [List.length_append]
      have := Nat.mul_le_mul_right 65756 h2
      omega
    · simp
  obtain ⟨N, hN⟩ : ∃ N, N = t.length := ⟨_, rfl⟩
  rw [← hN] at HE ⊢
  have Hl := hide hl
  clear hs hn hm hN ht hl hE
  cases hr : right t with
  | false =>
    have Hnm := hide (show name t = [] by unfold name; rw [hr]; rfl)
    have he : encode t = ([], 1) := by unfold encode; rw [hr]; rfl
    rw [he] at HE
    clear hr he
    go_enter Tryd.func19, Tryd.ntmps19
    go_wp2_with fail
    refine HE.out.mono ?_
    rintro y w1 ⟨v1, rfl, hown1, hb1⟩
    have Hb1 := hide hb1
    clear hb1 HE hown1
    go_wp2
    go_ret
    exact ⟨by rw [Hnm.out]; rfl, Hb1.out⟩
  | true =>
    have Hnm := hide (show name t = Sha.sha (enc t) by unfold name; rw [hr]; rfl)
    have he : encode t = (enc t, 0) := by unfold encode; rw [hr]; rfl
    rw [he] at HE Hl
    clear hr he
    generalize enc t = bs at *
    go_enter Tryd.func19, Tryd.ntmps19
    go_wp2_with fail
    refine HE.out.mono ?_
    rintro y w1 ⟨v1, rfl, hown1, hb1⟩
    obtain ⟨A1, c1, rfl, hsl⟩ := hown1.sl
    have HO := hide (Dg.of_any bs A1 c1 _ w1 hsl (Ht.out.below hb1) (by have := Hl.out; omega))
    obtain ⟨nb, hnb⟩ : ∃ z, z = bs.length := ⟨_, rfl⟩
    rw [← hnb] at HO ⊢
    have Hb1 := hide hb1
    clear hb1 HE hown1 hsl hnb
    go_wp2_with fail
    refine HO.out.mono ?_
    rintro y w2 ⟨rfl, hb2⟩
    have Hb2 := hide (Hb1.out.trans (hb2.mono Hb1.out.size))
    clear hb2 HO
    go_wp2
    go_ret
    exact ⟨by rw [Hnm.out]; rfl, Hb2.out⟩
end Go.Proofs.YtlplgkdoiinfhaaDoor.Tr
