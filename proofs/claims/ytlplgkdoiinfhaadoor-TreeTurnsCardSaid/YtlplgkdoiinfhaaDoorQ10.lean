/-
  What the reference's Num and Text come to.
-/
import Derived.Test.YtlplgkdoiinfhaaDoorQ9
import Derived.BigQuiet
import Derived.Test.YtlplgkdoiinfhaaDoorQ6
import Derived.Test.YtlplgkdoiinfhaaDoorQ1
import Derived.Test.YtlplgkdoiinfhaaDoorQ2
import Derived.Test.YtlplgkdoiinfhaaDoorQ5
namespace Go.Proofs.YtlplgkdoiinfhaaDoor.Wr
open Go Go.RowKit Kt

set_option maxHeartbeats 1000000 in
set_option maxRecDepth 100000 in
theorem rnum_any (b : List UInt8) (n : Nat) (A : Option Addr) (c : Nat) (Pb : Nat → Prop) (w : World) (hs : Sl w Pb A c b) (h : n < 18446744073709551616) (hl : b.length + 10 ≤ 70368744177664) :
    Calls Tryd.prog 33 #[.slice A b.length c, .int .u64 n] w fun e w' => ∃ v, e = .returned v ∧ Own w' w.heap.size 5 v (b ++ form n) ∧ Below w.heap.size w w' := by
  have Hn := hide h
  have Hs := hide hs
  have Hbl := hide hl
  clear h hs hl
  go_enter Tryd.func33, Tryd.ntmps33
  go_wp2_with (at_builtin; go_loud (refine wpList_cat rfl (.tmp 6) (.tmp 7) 25 rfl Tryd.underlying25 info8 w.heap.size w _ [] b Pb A c rfl rfl (Own.made w w.heap.size 5 #[] 0 (Nat.le_refl _) rfl (Nat.zero_le _)) ?qs ?ql ?qb ?qz ?_; rotate_left 4; intro v0 w0 hown0 hb0 _))
  case qs => exact Hs.out.move fun b _ hb => Below.heap_alloc w _ b hb
  case ql => have := Hbl.out; simp; omega
  case qb => exact (Below.refl _ _).alloc (Nat.le_refl _) _
  case qz => simp
  go_loopw [1, 5] (fun x v wr => ∃ (m : Nat) (l : List UInt8), x = .int .u64 m ∧ m ≤ n ∧ Own wr w.heap.size 5 v l ∧ l ++ form m = b ++ form n ∧ Below w.heap.size w wr) (fun x _ _ => (intOf x).toNat)
  case atStart => exact ⟨n, b, rfl, Nat.le_refl _, hown0, rfl, hb0⟩
  case round =>
    clear hown0 hb0
    obtain ⟨m, l, rfl, hm, hown, hl, hb⟩ := hrel
    have Hown := hide hown
    have Hb := hide hb
    have Hl := hide hl
    have Hmn := hide hm
    have hlen : l.length + (form m).length = b.length + (form n).length := by rw [← List.length_append, hl, List.length_append]
    have hs10 := form_short n 10 (by have := Hn.out; omega) (by omega)
    have Hlen := hide (show l.length + 1 ≤ 70368744177664 by have := form_pos m; have := Hbl.out; omega)
    have Hm := hide (show m < 18446744073709551616 by have := Hn.out; omega)
    clear hown hb hl hm hlen hs10
    have hm8 : m % 128 + 128 < 256 := by omega
    have hw64 : IntKind.u64.wrap ((m : Int) / 128) = (m : Int) / 128 := by rw [IntKind.wrap_u64]; have := Hm.out; omega
    by_cases hlt : m < 128
    · have Hf := hide (form_lt hlt)
      go_wp2_with (at_builtin; go_loud (refine wpList_push rfl (.tmp 20) (.tmp 23) 25 rfl Tryd.underlying25 info8 w.heap.size w _ l [UInt8.ofNat m] 1 1 rfl rfl Hown.out ?qc rfl ?ql Hb.out Hb.out.size ?_; rotate_left 2; intro v' w1 hown1 hb1 _))
      case qc => simp [u8s, UInt8.toNat_ofNat']; omega
      case ql => have := Hlen.out; simp; omega
      go_ret
      refine ⟨_, rfl, ?_, hb1⟩
      rw [← Hl.out, Hf.out]
      exact hown1
    · have Hf := hide (form_ge hlt)
      go_wp2_with (at_builtin; go_loud (refine wpList_push rfl (.tmp 11) (.tmp 16) 25 rfl Tryd.underlying25 info8 w.heap.size w _ l [UInt8.ofNat (m % 128 + 128)] 1 1 rfl rfl Hown.out ?qc rfl ?ql Hb.out Hb.out.size ?_; rotate_left 2; intro v' w1 hown1 hb1 _))
      case qc => simp [u8s, UInt8.toNat_ofNat']; omega
      case ql => have := Hlen.out; simp; omega
      refine ⟨⟨m / 128, _, by push_cast; rfl, by have := Hmn.out; omega, hown1, ?_, hb1⟩, ?_⟩
      · rw [← Hl.out, Hf.out]; simp
      · simp only [intOf]; omega

set_option maxHeartbeats 1000000 in
set_option maxRecDepth 100000 in
theorem rtext_any (b x : List UInt8) (A A' : Option Addr) (c c' : Nat) (Pb Px : Nat → Prop) (w : World) (hs : Sl w Pb A c b) (hx : Sl w Px A' c' x) (hl : b.length + x.length + 10 ≤ 70368744177664) :
    Calls Tryd.prog 34 #[.slice A b.length c, .slice A' x.length c'] w fun e w' => ∃ v, e = .returned v ∧ Own w' w.heap.size 5 v (b ++ (form x.length ++ x)) ∧ Below w.heap.size w w' := by
  have Hs := hide hs
  have Hx := hide hx
  have Hbl := hide hl
  have Hf := hide (form_short x.length 10 (by omega) (by omega))
  have hxl : x.length ≤ 70368744177664 := by omega
  clear hs hx hl
  go_enter Tryd.func34, Tryd.ntmps34
  go_wp2_with fail
  refine (rnum_any b x.length A c Pb w Hs.out (by omega) (by have := Hbl.out; omega)).mono ?_
  rintro y w1 ⟨v, rfl, hown, hb⟩
  have Hown := hide hown
  have Hb := hide hb
  clear hown hb
  go_wp2_with (at_builtin; go_loud (refine wpList_cat rfl (.tmp 9) (.tmp 10) 25 rfl Tryd.underlying25 info8 w.heap.size w _ _ x Px A' c' rfl rfl Hown.out ?qs ?ql Hb.out Hb.out.size ?_; rotate_left 2; intro v0 w0 hown0 hb0 _))
  case qs => exact Hx.out.move fun b _ hlt => Hb.out.block b hlt
  case ql => have := Hbl.out; have := Hf.out; simp; omega
  go_ret
  rw [List.append_assoc] at hown0
  exact ⟨_, rfl, hown0, hb0⟩
end Go.Proofs.YtlplgkdoiinfhaaDoor.Wr
namespace Go.Proofs.YtlplgkdoiinfhaaDoor.Tr
open Go Go.RowKit Kt Lw Li Lx Df Wr

theorem conv_txt (s : List UInt8) (w : World) : ∃ cap ob, (convert 9 25 (.string ⟨s.toArray⟩)).run Tryd.prog w = .ok (.slice (some ⟨w.heap.size, 0, none⟩) s.length cap) (w.drew.alloc ob) ∧ Sl (w.drew.alloc ob) (fun _ => True) (some ⟨w.heap.size, 0, none⟩) cap s := by
  refine ⟨_, _, run_bytes_of_string w 9 25 5 ⟨s.toArray⟩ Tryd.underlying9 Tryd.underlying25 Tryd.underlying5, ?_, fun hn => ⟨_, 0, rfl, trivial, fun j hj => ?_⟩⟩
  · have := grownCap_ge w (ByteArray.size ⟨s.toArray⟩) 0 5
    simpa [ByteArray.size] using this
  · rw [Nat.zero_add, cell_of_row _ w.heap.size j _ _ _ (heap_alloc_new w.drew _), bytesRow_at _ _ _ (by simpa using hj)]
    simp [List.getElem?_eq_getElem hj]
theorem own_based {w : World} {B B' : Nat} {E : TypeId} {v : Value} {l : List UInt8} (h : Own w B E v l) (hb : B' ≤ B) : Own w B' E v l :=
  ⟨h.1, h.2.imp id fun ⟨g, cap, cur, hv, h1, h2⟩ => ⟨g, cap, cur, hv, Nat.le_trans hb h1, h2⟩⟩
theorem form_ten {n : Nat} (h : n < 18446744073709551616) : (form n).length ≤ 10 := form_short n 10 (by omega) (by omega)
theorem fFl_le {f : Fl} (h : f.path.length ≤ 200 ∧ f.text.length ≤ 65536) : (fFl f).length ≤ 65756 := by
  have h1 := form_ten (n := f.path.length) (by omega)
  have h2 := form_ten (n := f.text.length) (by omega)
  unfold fFl
  simp only [List.length_append]
  omega
theorem enc_le : ∀ {t : List Fl}, (∀ f ∈ t, f.path.length ≤ 200 ∧ f.text.length ≤ 65536) → (t.flatMap fFl).length ≤ t.length * 65756
  | [], _ => by simp
  | f :: t, h => by
    have h1 := fFl_le (h f (by simp))
    have h2 := enc_le (t := t) fun g hg => h g (by simp [hg])
    rw [List.flatMap_cons, List.length_append, List.length_cons, Nat.succ_mul]; omega
set_option maxRecDepth 100000 in
set_option maxHeartbeats 4000000 in
theorem rencode_any (t : List Fl) (A : Option Addr) (c : Nat) (w : World) (hs : Fls w A c t) (hn : t.length ≤ 100000) (hm : ∀ f ∈ t, f.path.length ≤ 9223372036854775807) :
    Calls Tryd.prog 13 #[.slice A t.length c] w fun y w' => ∃ v, y = .returned (.tuple #[v, .int .i64 ((encode t).2 : Nat)]) ∧ Own w' w.heap.size 5 v (encode t).1 ∧ Below w.heap.size w w' := by
  have HR := hide (rright_any t A c w hs hn hm)
  have Hs := hide hs
  obtain ⟨N, hN⟩ : ∃ N, N = t.length := ⟨_, rfl⟩
  rw [← hN] at HR hn ⊢
  have HN := hide hN
  cases hr : right t with
  | false =>
    have He := hide (show encode t = ([], 1) by unfold encode; rw [hr]; rfl)
    rw [hr] at HR
    rw [He.out]
    clear hs hm hN hr
    go_enter Tryd.func13, Tryd.ntmps13
    go_wp2_with fail
    refine HR.out.mono ?_
    rintro y w1 ⟨rfl, hb1⟩
    have Hb1 := hide hb1
    clear hb1 HR
    go_wp2
    go_ret2
    exact ⟨_, rfl, Own.nil _ _ _, Hb1.out⟩
  | true =>
    have He := hide (show encode t = (form N ++ t.flatMap fFl, 0) by unfold encode; rw [hr, hN]; rfl)
    have Hsh := hide (right_short hr)
    have hN3 : N ≤ 1000 := by rw [hN]; exact (right_go hr).2
    rw [hr] at HR
    rw [He.out]
    have HNum := hide (fun w1 => rnum_any [] N none 0 (fun _ => True) w1 ⟨Nat.zero_le _, fun h => by simp at h⟩ (by omega) (by simp))
    have hcv : IntKind.u64.wrap (N : Int) = (N : Int) := by
      have := IntWalk.u64_in (n := (N : Int)) (by omega)
      exact this
    clear hs hm hN hr hn
    go_enter Tryd.func13, Tryd.ntmps13
    go_wp2_with fail
    refine HR.out.mono ?_
    rintro y w1 ⟨rfl, hb1⟩
    have Hb1 := hide hb1
    clear hb1 HR
    go_wp2_with fail
    refine (HNum.out w1).mono ?_
    rintro y w2 ⟨v2, rfl, hown2, hb2⟩
    have Hown2 := hide (own_based hown2 Hb1.out.size)
    have Hb2 := hide (Hb1.out.trans (hb2.mono Hb1.out.size))
    clear hown2 hb2 HNum
    go_wp2_with fail
    go_loopw [5, 6] (fun s i wr => ∃ (k : Nat) (v0 : Value), v0 = s ∧ k ≤ N ∧ i = .int .i64 k ∧ Own wr w.heap.size 5 v0 (form N ++ (t.take k).flatMap fFl) ∧ Below w.heap.size w wr) (fun _ i _ => N - (intOf i).toNat)
    case atStart => exact ⟨0, _, rfl, Nat.zero_le _, rfl, by simpa using Hown2.out, Hb2.out⟩
    case round =>
      obtain ⟨k, v, rfl, hk, rfl, hown, hb⟩ := hrel
      clear Hown2 Hb2
      have Hb := hide hb
      have Hown := hide hown
      clear hb hown
      by_cases hlt : k < N
      · obtain ⟨b, o, f, rfl, hbl, hf, hd, d0, d1⟩ := Hs.out.at (w' := wr) Hb.out (k := k) (by have := HN.out; omega)
        have Hbl := hide hbl
        have hft := Hsh.out f (List.mem_of_getElem? hf)
        have Htk := hide (show form N ++ (t.take (k + 1)).flatMap fFl = (form N ++ (t.take k).flatMap fFl) ++ (form f.path.length ++ f.path) ++ (form f.text.length ++ f.text) by
          rw [take_snocF hf, List.flatMap_append]; simp [fFl])
        have hlen := enc_le (t := t.take k) fun g hg => Hsh.out g (List.mem_of_mem_take hg)
        have hlen2 : (t.take k).length ≤ 1000 := by rw [List.length_take]; omega
        have h10 := form_ten (n := N) (by omega)
        have hfp := form_ten (n := f.path.length) (by omega)
        have hbL : (form N ++ (t.take k).flatMap fFl).length ≤ 70000000 := by
          rw [List.length_append]
          have := Nat.mul_le_mul_right 65756 hlen2
          omega
        obtain ⟨bs, hbs⟩ : ∃ bs, bs = form N ++ (t.take k).flatMap fFl := ⟨_, rfl⟩
        rw [← hbs] at Hown Htk hbL
        obtain ⟨x, hx⟩ : ∃ x, x = f.text := ⟨_, rfl⟩
        obtain ⟨p, hp⟩ : ∃ p, p = f.path := ⟨_, rfl⟩
        rw [← hx, ← hp] at Htk hft
        rw [← hp] at hfp
        rw [← hx] at d1
        rw [← hp] at d0
        have D1 := hide d1
        obtain ⟨A1, c1, rfl, hsl⟩ := Hown.out.sl
        -- the path's bytes
        obtain ⟨cap, ob, hcv1, hcs1⟩ := conv_txt p wr
        obtain ⟨w3, hw3⟩ : ∃ w3, w3 = wr.drew.alloc ob := ⟨_, rfl⟩
        rw [← hw3] at hcv1 hcs1
        have hb3 : Below wr.heap.size wr w3 := by rw [hw3]; exact ((Below.refl _ wr).drew).alloc (Nat.le_refl _) _
        have HT1 := hide (rtext_any bs p A1 (some ⟨wr.heap.size, 0, none⟩) c1 cap _ _ w3 (hsl.move fun g _ hlt => hb3.block g hlt) hcs1 (by omega))
        obtain ⟨nb, hnb⟩ : ∃ z, z = bs.length := ⟨_, rfl⟩
        obtain ⟨np, hnp⟩ : ∃ z, z = p.length := ⟨_, rfl⟩
        obtain ⟨qn, hqn⟩ : ∃ z, z = wr.heap.size := ⟨_, rfl⟩
        rw [← hnb, ← hnp, ← hqn] at HT1
        rw [← hnp, ← hqn] at hcv1
        rw [← hnb]
        have Hb3 := hide hb3
        have Hb13 := hide (Hb.out.trans (hb3.mono Hb.out.size))
        have Hlx := hide (show (bs ++ (form np ++ p)).length + x.length + 10 ≤ 70368744177664 by simp only [List.length_append]; rw [hnp]; omega)
        have Hsx := hide hnp
        clear hbs hx hp hf hd hbl hlen hlen2 hsl hcs1 hw3 hb3 hnb hnp hqn h10 hfp hbL hft d1
        go_wp2_with fail
        refine HT1.out.mono ?_
        rintro y w4 ⟨v4, rfl, hown4, hb4⟩
        have Hown4 := hide (own_based hown4 Hb13.out.size)
        have Hb14 := hide (Hb13.out.trans (hb4.mono Hb13.out.size))
        have hcell : w4.cell? ⟨b, o + k * 2 + 1, none⟩ = some (.string ⟨x.toArray⟩) := agr (agr D1.out Hb3.out) hb4
        clear hown4 hb4 HT1 hcv1 d0
        rename_i KK hKK
        refine hKK _ _ ?_
        clear hKK KK
        obtain ⟨A4, c4, rfl, hsl4⟩ := Hown4.out.sl
        obtain ⟨cap2, ob2, hcv2, hcs2⟩ := conv_txt x w4
        obtain ⟨w5, hw5⟩ : ∃ w5, w5 = w4.drew.alloc ob2 := ⟨_, rfl⟩
        rw [← hw5] at hcv2 hcs2
        have hb5 : Below w4.heap.size w4 w5 := by rw [hw5]; exact ((Below.refl _ w4).drew).alloc (Nat.le_refl _) _
        have HT2 := hide (rtext_any (bs ++ (form np ++ p)) x A4 (some ⟨w4.heap.size, 0, none⟩) c4 cap2 _ _ w5 (hsl4.move fun g _ hlt => hb5.block g hlt) hcs2 Hlx.out)
        obtain ⟨nb2, hnb2⟩ : ∃ z, z = (bs ++ (form np ++ p)).length := ⟨_, rfl⟩
        obtain ⟨nx, hnx⟩ : ∃ z, z = x.length := ⟨_, rfl⟩
        obtain ⟨qm, hqm⟩ : ∃ z, z = w4.heap.size := ⟨_, rfl⟩
        rw [← hnb2, ← hnx, ← hqm] at HT2
        rw [← hnx, ← hqm] at hcv2
        rw [← hnb2]
        have Hb15 := hide (Hb14.out.trans (hb5.mono Hb14.out.size))
        have Hsx2 := hide hnx
        clear hsl4 hcs2 hw5 hb5 hnb2 hnx hqm
        go_wp2_with fail
        refine HT2.out.mono ?_
        rintro y w6 ⟨v6, rfl, hown6, hb6⟩
        have Hown6 := hide (own_based hown6 Hb15.out.size)
        have Hb16 := hide (Hb15.out.trans (hb6.mono Hb15.out.size))
        clear hown6 hb6 HT2 hcv2 hcell
        go_wp2
        refine ⟨⟨k + 1, _, rfl, by omega, by go_num, ?_, Hb16.out⟩, by simp [intOf]; omega⟩
        rw [Htk.out, ← Hsx.out, ← Hsx2.out]
        exact Hown6.out
      · obtain rfl : k = N := by omega
        have hown := Hown.out
        rw [HN.out, List.take_length, ← HN.out] at hown
        obtain ⟨A9, c9, rfl, _⟩ := hown.sl
        have Hown9 := hide hown
        obtain ⟨l9, hl9⟩ : ∃ z, z = (form k ++ t.flatMap fFl).length := ⟨_, rfl⟩
        rw [← hl9] at Hown9 ⊢
        clear hown hl9 Hown
        go_wp2
        go_ret2
        exact ⟨_, rfl, Hown9.out, Hb.out⟩
end Go.Proofs.YtlplgkdoiinfhaaDoor.Tr
namespace Go.Proofs.YtlplgkdoiinfhaaDoor.Tr
open Go Go.RowKit Kt Lw Li Lx Df Wr

/-- what holds of an operation's value once it is done -/
def PhiX (p x : Bs) (g B : Nat) : Nat → Value → World → Prop
  | 0, v, _ => v = .pointer (some ⟨g, 0, none⟩)
  | 1, v, _ => v = .string ⟨p.toArray⟩
  | 2, v, w => Is w (fun _ => True) v p
  | 3, v, w => Is w (fun _ => True) v (form p.length ++ p)
  | 4, v, _ => v = .pointer (some ⟨g, 1, none⟩)
  | 5, v, _ => v = .string ⟨x.toArray⟩
  | 6, v, w => Is w (fun _ => True) v x
  | 7, v, w => Own w B 5 v (fFl ⟨p, x⟩)
  | _, _, _ => True
theorem PhiX.keep {p x : Bs} {g B k : Nat} {v : Value} {w w' : World} (h : PhiX p x g B k v w) (hb : Below w.heap.size w w') : PhiX p x g B k v w' := by
  unfold PhiX at h ⊢
  split at h <;> first | exact h | exact h.below hb | exact h.kept hb
def updX (v : Nat → Value) (k : Nat) (x : Value) : Nat → Value := fun j => if j = k then x else v j
theorem updX_same (v : Nat → Value) (k : Nat) (x : Value) : updX v k x k = x := if_pos rfl
theorem updX_other (v : Nat → Value) (k : Nat) (x : Value) (j : Nat) (h : j ≠ k) : updX v k x j = v j := if_neg h
def frX (r p1 x2 : Value) (v : Nat → Value) : Act := { tmps := List.toArray (r :: p1 :: x2 :: v 3 :: v 4 :: v 5 :: v 6 :: v 7 :: v 8 :: v 9 :: v 10 :: []), defers := [] }
theorem repX_false (n k : Nat) : (Array.replicate n false).getD k false = false := by
  unfold Array.getD
  split
  · simp
  · rfl
/-- what holds of all that is done so far -/
structure DnX (p x : Bs) (g B : Nat) (w1 : World) (listed : Array Bool) (v : Nat → Value) (x2 : Value) (w : World) : Prop where
  low : Below w1.heap.size w1 w
  phi : ∀ k, k < 8 → listed.getD k false = true → PhiX p x g B k (v (k + 3)) w
  fin : listed.getD 8 false = true → Own w B 5 x2 (fFl ⟨p, x⟩)
theorem DnX.step {p x : Bs} {g B : Nat} {w1 : World} {listed : Array Bool} {v : Nat → Value} {x2 : Value} {w : World} (h : DnX p x g B w1 listed v x2 w) (k : Nat) (hk : k < 8) {nv : Value} {w' : World} (hb : Below w.heap.size w w') (hn : PhiX p x g B k nv w') :
    DnX p x g B w1 (listed.setIfInBounds k true) (updX v (k + 3) nv) x2 w' := by
  refine ⟨h.low.trans (hb.mono h.low.size), fun j hj hl => ?_, fun hl => ?_⟩
  · by_cases e : j = k
    · subst e; rw [updX_same]; exact hn
    · rw [updX_other _ _ _ _ (by omega)]
      rw [getD_set_ne false (fun h => e h.symm)] at hl
      exact (h.phi j hj hl).keep hb
  · rw [getD_set_ne false (by omega)] at hl
    exact (h.fin hl).kept hb
theorem DnX.last {p x : Bs} {g B : Nat} {w1 : World} {listed : Array Bool} {v : Nat → Value} {x2 : Value} {w : World} (h : DnX p x g B w1 listed v x2 w) {nv : Value} (hn : Own w B 5 nv (fFl ⟨p, x⟩)) :
    DnX p x g B w1 (listed.setIfInBounds 8 true) v nv w :=
  ⟨h.low, fun j hj hl => h.phi j hj (by rw [getD_set_ne false (by omega)] at hl; exact hl), fun _ => hn⟩
set_option maxRecDepth 100000 in
set_option maxHeartbeats 8000000 in
theorem file_any (p x : Bs) (w : World) (hp : p.length ≤ 200) (hx : x.length ≤ 65536) :
    Calls Tryd.prog 32 #[.agg #[.string ⟨p.toArray⟩, .string ⟨x.toArray⟩]] w fun y w' => ∃ v, y = .returned v ∧ Own w' w.heap.size 5 v (fFl ⟨p, x⟩) ∧ Below w.heap.size w w' := by
  obtain ⟨g, hg⟩ : ∃ g, g = w.heap.size := ⟨_, rfl⟩
  obtain ⟨w1, hw1⟩ : ∃ w1, w1 = w.alloc (.cells #[.string ⟨p.toArray⟩, .string ⟨x.toArray⟩] tF) := ⟨_, rfl⟩
  have hb1 : Below w.heap.size w w1 := by rw [hw1]; exact (Below.refl _ w).alloc (Nat.le_refl _) _
  have hrow := Row.fresh w tF #[.string ⟨p.toArray⟩, .string ⟨x.toArray⟩]
  rw [← hw1, ← hg] at hrow
  have hf10 := form_ten (n := p.length) (by omega)
  have HT1 := hide (fun (wz : World) A c (hs : Sl wz (fun _ => True) A c p) => text_put [] p none 0 A c (fun _ => True) (fun _ => True) wz (Sl.nil _ _ _ _) hs (by simp; omega))
  have HT2 := hide (fun (wz : World) A0 c0 A c (h0 : Sl wz (fun _ => True) A0 c0 (form p.length ++ p)) (hs : Sl wz (fun _ => True) A c x) => text_put (form p.length ++ p) x A0 c0 A c (fun _ => True) (fun _ => True) wz h0 hs (by simp; omega))
  have e2 : (form p.length ++ p) ++ (form x.length ++ x) = fFl ⟨p, x⟩ := by unfold fFl; simp
  rw [e2] at HT2
  have HC := hide (show ∀ wz, Below w1.heap.size w1 wz → wz.cell? ⟨g, 0, none⟩ = some (.string ⟨p.toArray⟩) ∧ wz.cell? ⟨g, 1, none⟩ = some (.string ⟨x.toArray⟩) from fun wz hz => by
    have hr := hrow.below hz hrow.lt
    exact ⟨hr.cell 0, hr.cell 1⟩)
  have HF := hide (show ∀ wz, Below w1.heap.size w1 wz → Below w.heap.size w wz from fun wz h => hb1.trans (h.mono hb1.size))
  have HS := hide hb1.size
  have W1 := hide hw1
  have G1 := hide hg
  clear hb1 hrow hf10 e2 hp hx hw1 hg
  go_enter Tryd.func32, Tryd.ntmps32
  go_wp2_with (rw [← W1.out, ← G1.out])
  refine Rv.wp_region_inv (fun listed a' w' => ∃ v x2, a' = frX (.agg #[.string ⟨p.toArray⟩, .string ⟨x.toArray⟩]) (.pointer (some ⟨g, 0, none⟩)) x2 v ∧ DnX p x g w.heap.size w1 listed v x2 w') (by kernel_rfl) (by kernel_rfl) ?start ?step ?fin
  case start =>
    refine ⟨fun _ => undef, _, rfl, ⟨(Below.refl _ w1).drew, fun k hk hl => ?_, fun hl => ?_⟩⟩
    · rw [repX_false] at hl; cases hl
    · rw [repX_false] at hl; cases hl
  case fin =>
    rintro listed a' w' ⟨v, x2, rfl, hd⟩ hl
    have Hown := hide (hd.fin (hl 8 (by simp)))
    have Hlow := hide hd.low
    clear hd hl
    unfold frX
    go_wp2
    go_ret
    exact ⟨_, rfl, Hown.out, HF.out _ Hlow.out⟩
  case step =>
    rintro listed a' w' i op ⟨v, x2, rfl, hd⟩ hop hsz hdep K hK
    have hi : i < 9 := by have := (List.getElem?_eq_some_iff.1 hop).1; simpa using this
    have HK := hide (show ∀ k nv wz, k < 8 → i = k → Below w'.heap.size w' wz → PhiX p x g w.heap.size k nv wz → K (frX (.agg #[.string ⟨p.toArray⟩, .string ⟨x.toArray⟩]) (.pointer (some ⟨g, 0, none⟩)) x2 (updX v (k + 3) nv)) wz from
      fun k nv wz hk hik hbz hph => hK _ _ ⟨_, _, rfl, by rw [hik]; exact hd.step k hk hbz hph⟩)
    obtain ⟨c0, c1⟩ := HC.out w' hd.low
    have Hd := hide hd
    have Hdep := hide hdep
    have HhK := hide hK
    clear hd hdep hK
    have hcase : i = 0 ∨ i = 1 ∨ i = 2 ∨ i = 3 ∨ i = 4 ∨ i = 5 ∨ i = 6 ∨ i = 7 ∨ i = 8 := by omega
    rcases hcase with rfl | rfl | rfl | rfl | rfl | rfl | rfl | rfl | rfl
    · simp only [List.getElem?_cons_zero, Option.some.injEq] at hop
      subst hop
      unfold frX
      go_simp
      exact HK.out 0 (.pointer (some ⟨g, 0, none⟩)) _ (by omega) rfl (Below.refl _ _) rfl
    · simp only [List.getElem?_cons_zero, List.getElem?_cons_succ, Option.some.injEq] at hop
      subst hop
      have h0 : v 3 = .pointer (some ⟨g, 0, none⟩) := Hd.out.phi 0 (by omega) (Hdep.out 0 (by kernel_rfl))
      unfold frX
      go_simp
      have hk := HK.out 1 (.string ⟨p.toArray⟩) _ (by omega) rfl (Below.refl _ _) rfl
      simp only [frX, updX, Nat.reduceAdd, Nat.reduceEqDiff, ↓reduceIte, h0] at hk
      exact hk
    · simp only [List.getElem?_cons_zero, List.getElem?_cons_succ, Option.some.injEq] at hop
      subst hop
      have h1 : v 4 = .string ⟨p.toArray⟩ := Hd.out.phi 1 (by omega) (Hdep.out 1 (by kernel_rfl))
      obtain ⟨cap, ob, hrun, hsl⟩ := conv_txt p w'
      have Hsl := hide hsl
      have Hrun := hide hrun
      clear hsl
      unfold frX
      go_simp
      have hk := HK.out 2 (.slice (some ⟨w'.heap.size, 0, none⟩) p.length cap) _ (by omega) rfl ((Below.refl _ _).drew.alloc (Nat.le_refl _) ob) ⟨_, _, rfl, Hsl.out⟩
      simp only [frX, updX, Nat.reduceAdd, Nat.reduceEqDiff, ↓reduceIte, h1] at hk
      exact hk
    · simp only [List.getElem?_cons_zero, List.getElem?_cons_succ, Option.some.injEq] at hop
      subst hop
      obtain ⟨A2, k2, h2, hs2⟩ : Is w' (fun _ => True) (v 5) p := Hd.out.phi 2 (by omega) (Hdep.out 2 (by kernel_rfl))
      have hT := HT1.out w' A2 k2 hs2
      clear hs2
      generalize hpl : p.length = pl at h2
      rw [hpl] at hT
      unfold frX
      go_simp
      refine hT.mono ?_
      rintro y w2 ⟨v2, rfl, hown2, hb2⟩
      have hk := HK.out 3 v2 _ (by omega) rfl hb2 (show Is w2 (fun _ => True) v2 (form p.length ++ p) from by
        have := (Is.own hown2).imp (Q := fun _ => True) fun _ _ _ => trivial
        rw [List.nil_append, ← hpl] at this
        exact this)
      simp only [frX, updX, Nat.reduceAdd, Nat.reduceEqDiff, ↓reduceIte, h2] at hk
      exact hk
    · simp only [List.getElem?_cons_zero, List.getElem?_cons_succ, Option.some.injEq] at hop
      subst hop
      unfold frX
      go_simp
      exact HK.out 4 (.pointer (some ⟨g, 1, none⟩)) _ (by omega) rfl (Below.refl _ _) rfl
    · simp only [List.getElem?_cons_zero, List.getElem?_cons_succ, Option.some.injEq] at hop
      subst hop
      have h0 : v 7 = .pointer (some ⟨g, 1, none⟩) := Hd.out.phi 4 (by omega) (Hdep.out 4 (by kernel_rfl))
      unfold frX
      go_simp
      have hk := HK.out 5 (.string ⟨x.toArray⟩) _ (by omega) rfl (Below.refl _ _) rfl
      simp only [frX, updX, Nat.reduceAdd, Nat.reduceEqDiff, ↓reduceIte, h0] at hk
      exact hk
    · simp only [List.getElem?_cons_zero, List.getElem?_cons_succ, Option.some.injEq] at hop
      subst hop
      have h1 : v 8 = .string ⟨x.toArray⟩ := Hd.out.phi 5 (by omega) (Hdep.out 5 (by kernel_rfl))
      obtain ⟨cap, ob, hrun, hsl⟩ := conv_txt x w'
      have Hsl := hide hsl
      clear hsl
      unfold frX
      go_simp
      have hk := HK.out 6 (.slice (some ⟨w'.heap.size, 0, none⟩) x.length cap) _ (by omega) rfl ((Below.refl _ _).drew.alloc (Nat.le_refl _) ob) ⟨_, _, rfl, Hsl.out⟩
      simp only [frX, updX, Nat.reduceAdd, Nat.reduceEqDiff, ↓reduceIte, h1] at hk
      exact hk
    · simp only [List.getElem?_cons_zero, List.getElem?_cons_succ, Option.some.injEq] at hop
      subst hop
      obtain ⟨A3, k3, h3, hs3⟩ : Is w' (fun _ => True) (v 6) (form p.length ++ p) := Hd.out.phi 3 (by omega) (Hdep.out 3 (by kernel_rfl))
      obtain ⟨A6, k6, h6, hs6⟩ : Is w' (fun _ => True) (v 9) x := Hd.out.phi 6 (by omega) (Hdep.out 6 (by kernel_rfl))
      have hT := HT2.out w' A3 k3 A6 k6 hs3 hs6
      clear hs3 hs6
      generalize (form p.length ++ p).length = n3 at h3 hT
      generalize x.length = n6 at h6 hT
      unfold frX
      go_simp
      refine hT.mono ?_
      rintro y w2 ⟨v2, rfl, hown2, hb2⟩
      have hk := HK.out 7 v2 _ (by omega) rfl hb2 (show Own w2 w.heap.size 5 v2 (fFl ⟨p, x⟩) from own_based hown2 (by have := Hd.out.low.size; have := HS.out; omega))
      simp only [frX, updX, Nat.reduceAdd, Nat.reduceEqDiff, ↓reduceIte, h3, h6] at hk
      exact hk
    · simp only [List.getElem?_cons_zero, List.getElem?_cons_succ, Option.some.injEq] at hop
      subst hop
      have h7 : Own w' w.heap.size 5 (v 10) (fFl ⟨p, x⟩) := Hd.out.phi 7 (by omega) (Hdep.out 7 (by kernel_rfl))
      have hk := HhK.out (frX (.agg #[.string ⟨p.toArray⟩, .string ⟨x.toArray⟩]) (.pointer (some ⟨g, 0, none⟩)) (v 10) v) w' ⟨_, _, rfl, Hd.out.last h7⟩
      unfold frX at hk ⊢
      go_simp
      exact hk
end Go.Proofs.YtlplgkdoiinfhaaDoor.Tr
