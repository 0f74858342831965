/-
  The reference's Digits, side, mark, can, Print; the statement UnifiedPrints, walked.
-/
import Derived.Test.YtfmmececocilhaaDoorUB
import Derived.Test.YtfmmececocilhaaDoorLDs
import Derived.Test.YtfmmececocilhaaDoorHGs
import Derived.Test.YtfmmececocilhaaDoorUX
import Derived.Test.YtfmmececocilhaaDoorHX
import Derived.Test.YtfmmececocilhaaDoorUV
namespace Go.Proofs.YtfmmececocilhaaDoor.Un
open Go Go.RowKit Kt Lw Li Df Hu

/-- a digit's text -/
theorem enc_digit (k : Nat) (hk : k < 10) : Utf8.encode (48 + (k : Int)) = ByteArray.mk [UInt8.ofNat (48 + k)].toArray := by
  rcases k with _ | _ | _ | _ | _ | _ | _ | _ | _ | _ | k
  all_goals first | omega | kernel_rfl
theorem dec_more (m : Nat) (h : 9 < m) (t : List UInt8) : Lib.decDigits m ++ t = Lib.decDigits (m / 10) ++ (UInt8.ofNat (48 + m % 10) :: t) := by
  rw [Lib.decDigits, dif_neg (by omega), List.append_assoc]; rfl
theorem dec_last (m : Nat) (h : ¬ 9 < m) (t : List UInt8) : Lib.decDigits m ++ t = [UInt8.ofNat (48 + m)] ++ t := by
  rw [Lib.decDigits, dif_pos (by omega)]
set_option maxRecDepth 100000 in
set_option maxHeartbeats 1000000 in
theorem digits_any (n : Nat) (w : World) (hn : n ≤ 4294967296) :
    Calls Tryd.prog 38 #[.int .i64 (n : Int)] w fun y w' => y = .returned (.string ⟨(Lib.decDigits n).toArray⟩) ∧ w' = w := by
  go_enter Tryd.func38, Tryd.ntmps38
  go_wp2
  go_loopw [0, 3] (fun a s wr => ∃ (m : Nat) (t : List UInt8), m + t.length ≤ n ∧ a = .int .i64 (m : Int) ∧ s = .string ⟨t.toArray⟩ ∧ Lib.decDigits n = Lib.decDigits m ++ t ∧ wr = w) (fun a _ _ => (intOf a).toNat)
  case atStart => exact ⟨n, [], Nat.le_refl _, rfl, rfl, by rw [List.append_nil], rfl⟩
  case round =>
    obtain ⟨m, t, hm, rfl, rfl, ht, rfl⟩ := hrel
    have Ht := hide ht
    clear ht
    by_cases h9 : 9 < m
    · have d9 : decide ((9 : Int) < (m : Int)) = true := decide_eq_true (by omega)
      have he := enc_digit (m % 10) (by omega)
      have hm := dec_more m h9 t
      obtain ⟨d, hd⟩ : ∃ d, d = UInt8.ofNat (48 + m % 10) := ⟨_, rfl⟩
      rw [← hd] at he hm
      rw [show ((m % 10 : Nat) : Int) = (m : Int) % 10 by omega] at he
      have Hm := hide hm
      have ea := app_txt [d] t
      clear hm hd
      go_wp2
      exact ⟨⟨m / 10, d :: t, by rw [List.length_cons]; omega, congrArg (Value.int .i64) (by omega), rfl, by rw [Ht.out, Hm.out], trivial⟩, by simp [intOf]; omega⟩
    · have d9 : decide ((9 : Int) < (m : Int)) = false := decide_eq_false (by omega)
      have he := enc_digit m (by omega)
      have hm := dec_last m h9 t
      obtain ⟨d, hd⟩ : ∃ d, d = UInt8.ofNat (48 + m) := ⟨_, rfl⟩
      rw [← hd] at he hm
      have Hm := hide hm
      have ea := app_txt [d] t
      clear hm hd
      go_wp2
      go_ret
      exact ⟨by rw [Ht.out, Hm.out]; rfl, rfl⟩
end Go.Proofs.YtfmmececocilhaaDoor.Un
namespace Go.Proofs.YtfmmececocilhaaDoor.Un
open Go Go.RowKit Kt Lw Li Df Hu

theorem mark_any (w : World) : Calls Tryd.prog 23 #[] w fun y w' => y = .returned (.string ⟨markB.toArray⟩) ∧ w' = w := by
  go_enter Tryd.func23, Tryd.ntmps23
  go_wp2
  go_ret
  exact ⟨rfl, rfl⟩
set_option maxRecDepth 100000 in
set_option maxHeartbeats 1000000 in
theorem refSide_any (p m : Int) (w : World) (hp : 0 ≤ p ∧ p ≤ 2147483647) (hm : 0 ≤ m ∧ m ≤ 2147483647) :
    Calls Tryd.prog 21 #[.int .i64 p, .int .i64 m] w fun y w' => y = .returned (.string ⟨(sideT p m).toArray⟩) ∧ w' = w := by
  obtain ⟨q, hq⟩ : ∃ q : Nat, plc p m = q := Int.eq_ofNat_of_zero_le (by unfold plc; omega)
  obtain ⟨n, rfl⟩ := Int.eq_ofNat_of_zero_le hm.1
  have hq' : p + min (n : Int) 1 = q := hq
  have HD := hide (digits_any q w (by omega))
  have HN := hide (digits_any n w (by omega))
  have HS := hide (show sideT p n = Lib.decDigits q ++ ([44] ++ Lib.decDigits n) by
    rw [sideT, hq, itoa_nat _ (by omega), itoa_nat _ (by omega)]; rfl)
  have hl1 := dec_len 10 q (by omega) (by omega)
  have hl2 := dec_len 10 n (by omega) (by omega)
  generalize Lib.decDigits q = X at *
  generalize Lib.decDigits n = Y at *
  have ea1 := app_txt X [44]
  have ea2 := app_txt (X ++ [44]) Y
  rw [List.append_assoc] at ea2
  have sz1 : (ByteArray.mk X.toArray).size ≤ 10 := hl1
  have sz2 : (ByteArray.mk Y.toArray).size ≤ 10 := hl2
  have sz3 : (ByteArray.mk (X ++ [44]).toArray).size ≤ 11 := by
    show (X ++ [44]).length ≤ 11
    rw [List.length_append]
    exact Nat.add_le_add_right hl1 1
  by_cases h0 : 0 < (n : Int)
  · have hqp : p + 1 = q := by omega
    clear hq hq'
    go_enter Tryd.func21, Tryd.ntmps21
    go_wp2_with fail
    refine HD.out.mono ?_
    rintro y w1 ⟨rfl, rfl⟩
    go_wp2_with fail
    refine HN.out.mono ?_
    rintro y w1 ⟨rfl, rfl⟩
    go_wp2
    go_ret
    exact ⟨by rw [HS.out]; rfl, rfl⟩
  · obtain rfl : n = 0 := by omega
    have hqp : p = q := by omega
    subst hqp
    clear hq hq'
    go_enter Tryd.func21, Tryd.ntmps21
    go_wp2_with fail
    refine HD.out.mono ?_
    rintro y w1 ⟨rfl, rfl⟩
    go_wp2_with fail
    refine HN.out.mono ?_
    rintro y w1 ⟨rfl, rfl⟩
    go_wp2
    go_ret
    exact ⟨by rw [HS.out]; rfl, rfl⟩
end Go.Proofs.YtfmmececocilhaaDoor.Un
namespace Go.Proofs.YtfmmececocilhaaDoor.Un
open Go Go.RowKit Kt Lw Li Df Hu

def inB (x : List UInt8) : Bool := decide (10 ∉ x.dropLast)
theorem inB_one {x : List UInt8} (hx : x ≠ []) : ((lns x).length == 1) = inB x := by
  obtain ⟨y, b, rfl⟩ : ∃ y b, x = y ++ [b] := ⟨_, _, (List.dropLast_concat_getLast hx).symm⟩
  rw [Bool.eq_iff_iff, one_len, inB, decide_eq_true_iff, List.dropLast_concat]
  constructor
  · intro h
    obtain ⟨z, c, e, hz⟩ := one_parts h
    obtain ⟨rfl, _⟩ := List.append_inj' e rfl
    exact hz
  · exact lns_one y b
theorem inB_yes {x : List UInt8} (h : ∀ j, j < x.length - 1 → x.getD j 0 ≠ 10) : inB x = true := by
  rw [inB, decide_eq_true_iff]
  intro hm
  obtain ⟨j, hj, he⟩ := List.getElem_of_mem hm
  rw [List.length_dropLast] at hj
  refine h j hj ?_
  rw [List.getElem_dropLast] at he
  rw [List.getD_eq_getElem?_getD, List.getElem?_eq_getElem (by omega)]
  exact he
theorem inB_no {x : List UInt8} {j : Nat} (hj : j < x.length - 1) (h : x.getD j 0 = 10) : inB x = false := by
  rw [inB, decide_eq_false_iff_not, Classical.not_not]
  rw [List.getD_eq_getElem?_getD, List.getElem?_eq_getElem (by omega)] at h
  have : (x.dropLast)[j]'(by rw [List.length_dropLast]; exact hj) = 10 := by rw [List.getElem_dropLast]; exact h
  rw [← this]; exact List.getElem_mem _
theorem tell_few {h : Hk} (hf : ¬ tooBig h) : tell h = (hright h && h.lines.all inB) := by
  cases hr : hright h with
  | false => unfold tell; rw [hr]; rfl
  | true =>
    obtain ⟨p1, p2, p3, p4, p5⟩ := hright_parts hr
    unfold tooBig at hf
    have s1 : smlB h.a h.an = true := (smlB_iff p2 (by omega)).2 ⟨p2, by omega, by omega, by unfold plc; omega⟩
    have s2 : smlB h.b h.bn = true := (smlB_iff p3 (by omega)).2 ⟨p3, by omega, by omega, by unfold plc; omega⟩
    rw [tell, hr, s1, s2, Bool.true_and, Bool.true_and, Bool.true_and]
    have hne : ∀ x ∈ h.lines, x ≠ [] := by
      have key : ∀ (l : Ls) (p : Bool), okF p l = true → ∀ x ∈ l, x ≠ [] := by
        intro l
        induction l with
        | nil => intro p _ x hx; cases hx
        | cons y l ih =>
          intro p ho x hx
          obtain ⟨⟨h1, _⟩, h3⟩ := (okF_cons p y l).1 ho
          rcases List.mem_cons.1 hx with rfl | hx
          · rintro rfl
            revert h1; decide
          · exact ih _ h3 x hx
      exact key _ _ p1
    rw [Bool.true_and, Bool.eq_iff_iff, List.all_eq_true, List.all_eq_true]
    exact ⟨fun h x hx => by rw [← inB_one (hne x hx)]; exact h x hx, fun h x hx => by rw [inB_one (hne x hx)]; exact h x hx⟩
theorem all_at {l : Ls} {f : List UInt8 → Bool} (h : ∀ j, j < l.length → f (l.getD j []) = true) : l.all f = true := by
  rw [List.all_eq_true]
  intro x hx
  obtain ⟨j, hj, rfl⟩ := List.getElem_of_mem hx
  have := h j hj
  rwa [List.getD_eq_getElem?_getD, List.getElem?_eq_getElem hj] at this
theorem not_all {l : Ls} {f : List UInt8 → Bool} {j : Nat} (hj : j < l.length) (h : f (l.getD j []) = false) : l.all f = false := by
  rw [List.all_eq_false]
  refine ⟨l[j], List.getElem_mem _, ?_⟩
  rw [List.getD_eq_getElem?_getD, List.getElem?_eq_getElem hj] at h
  rw [show f l[j] = false from h]; simp
set_option maxRecDepth 100000 in
set_option maxHeartbeats 2000000 in
theorem can_any (ha han hb hbn : Int) (L : Ls) (A : Option Addr) (c : Nat) (P : Nat → Prop) (w : World) (hs : Vs w P A c (texts L)) (hf : ¬ tooBig ⟨ha, han, hb, hbn, L⟩) (hx : ∀ x ∈ L, x.length ≤ 1000000) :
    Calls Tryd.prog 20 #[.agg #[.int .i64 ha, .int .i64 han, .int .i64 hb, .int .i64 hbn, .slice A L.length c]] w fun y w' => y = .returned (.bool (tell ⟨ha, han, hb, hbn, L⟩)) ∧ Below w.heap.size w w' := by
  have Hs := hide hs.bound
  have HX := hide hx
  have HT := hide (tell_few hf)
  have hfb := hf
  unfold tooBig at hfb
  simp only at hfb
  have hn30 : L.length ≤ 30 := by omega
  have HR := hide (fun w' (hb1 : Below w.heap.size w w') => refRight_any ha han hb hbn L A c _ w' (Lw.Vs.below hs.bound hb1) (by omega))
  generalize hright ⟨ha, han, hb, hbn, L⟩ = R at *
  obtain ⟨N, hN⟩ : ∃ N, N = L.length := ⟨_, rfl⟩
  rw [← hN] at hn30 HR hfb ⊢
  have HN := hide hN
  have q1 : decide ((2147483646 : Int) < ha) = false := decide_eq_false (by omega)
  have q2 : decide ((2147483646 : Int) < hb) = false := decide_eq_false (by omega)
  have q3 : decide (ha < (2147483648 : Int)) = true := decide_eq_true (by omega)
  have q4 : decide (han < (2147483648 : Int)) = true := decide_eq_true (by omega)
  have q5 : decide (hb < (2147483648 : Int)) = true := decide_eq_true (by omega)
  have q6 : decide (hbn < (2147483648 : Int)) = true := decide_eq_true (by omega)
  clear hs hN hf hfb hx
  go_enter Tryd.func20, Tryd.ntmps20
  go_wp2_with fail
  obtain ⟨w1, hw1⟩ : ∃ w1, w1 = w.alloc (.cells #[.int .i64 ha, .int .i64 han, .int .i64 hb, .int .i64 hbn, .slice A N c] tH) := ⟨_, rfl⟩
  have hb1 : Below w.heap.size w w1 := by rw [hw1]; exact (Below.refl _ w).alloc (Nat.le_refl _) _
  have hrow : Row w1 w.heap.size tH [.int .i64 ha, .int .i64 han, .int .i64 hb, .int .i64 hbn, .slice A N c] := by rw [hw1]; exact Row.fresh w tH _
  rw [← hw1]
  have Hrow := hide hrow
  have Hb1 := hide hb1
  clear hw1 hb1 hrow
  refine (HR.out w1 Hb1.out).mono ?_
  rintro y w2 ⟨rfl, hb2⟩
  have hrow := Hrow.out.below hb2 Hrow.out.lt
  have Hb2 := hide (Hb1.out.trans (hb2.mono Hb1.out.size))
  have c0 := hrow.cell 0
  have c1 := hrow.cell 1
  have c2 := hrow.cell 2
  have c3 := hrow.cell 3
  have c4 := hrow.cell 4
  simp only [List.getElem?_cons_zero, List.getElem?_cons_succ] at c0 c1 c2 c3 c4
  clear hrow hb2 Hb1 Hrow HR
  go_wp2
  go_loopw [4] (fun i wr => ∃ k : Nat, k ≤ N ∧ i = .int .i64 k ∧ (∀ j, j < k → inB (L.getD j []) = true) ∧ wr = w2) (fun i _ => N - (intOf i).toNat)
  case atStart => exact ⟨0, Nat.zero_le _, rfl, (fun j h => absurd h (Nat.not_lt_zero _)), rfl⟩
  case round =>
    obtain ⟨k, hk, rfl, hall, rfl⟩ := hrel
    have Hall := hide hall
    clear hall
    by_cases hlt : k < N
    · obtain ⟨b, o, hA, ck⟩ := Hs.out.text Hb2.out (k := k) (by have := HN.out; omega)
      subst hA
      have hxl := HX.out (L.getD k []) (getD_mem (by have := HN.out; omega))
      obtain ⟨x, hxe⟩ : ∃ x, x = L.getD k [] := ⟨_, rfl⟩
      rw [← hxe] at ck hxl
      obtain ⟨n, hn⟩ : ∃ n, n = x.length := ⟨_, rfl⟩
      have hsz : (ByteArray.mk x.toArray).size = n := by rw [hn]; rfl
      have Hn := hide hn
      have Hxe := hide hxe
      have hga : ∀ j (h : j < (ByteArray.mk x.toArray).size), (ByteArray.mk x.toArray)[j] = x.getD j 0 := fun j h => Li.get_at x j h
      have Hga := hide hga
      rw [← hn] at hxl
      clear hn hxe hga
      go_wp2
      go_loopw [5] (fun i wr' => ∃ j : Nat, i = .int .i64 j ∧ (∀ i, i < j → x.getD i 0 ≠ 10) ∧ j ≤ n ∧ wr' = wr) (fun i _ => n - (intOf i).toNat)
      case atStart => exact ⟨0, rfl, (fun j h => absurd h (Nat.not_lt_zero _)), Nat.zero_le _, rfl⟩
      case round =>
        obtain ⟨j, rfl, hno, hjn, rfl⟩ := hrel
        have Hno := hide hno
        clear hno
        by_cases hj : j < n - 1
        · have d1 : decide ((j : Int) < (n : Int) - 1) = true := decide_eq_true (by omega)
          have hg := Hga.out j (by rw [hsz]; omega)
          obtain ⟨b0, hb0⟩ : ∃ b0, b0 = x.getD j 0 := ⟨_, rfl⟩
          rw [← hb0] at hg
          by_cases h10 : b0 = 10
          · subst h10
            have HF := hide (show tell ⟨ha, han, hb, hbn, L⟩ = false by
              have h1 : inB x = false := inB_no (by have := Hn.out; omega) hb0.symm
              rw [Hxe.out] at h1
              rw [HT.out, not_all (by have := HN.out; omega) h1, Bool.and_false])
            clear hb0
            go_wp2
            go_ret
            exact ⟨by rw [HF.out]; rfl, Hb2.out⟩
          · have e10 : ((b0.toNat : Int) == 10) = false := u8_ne h10
            have Hno' := hide (show ∀ i, i < j + 1 → x.getD i 0 ≠ 10 from fun i hi => by
              rcases Nat.lt_or_ge i j with h | h
              · exact Hno.out i h
              · obtain rfl : i = j := by omega
                rw [← hb0]; exact h10)
            clear hb0
            go_wp2
            exact ⟨⟨j + 1, by go_num, Hno'.out, by omega, trivial⟩, by simp [intOf]; omega⟩
        · have d1 : decide ((j : Int) < (n : Int) - 1) = false := decide_eq_false (by omega)
          have Hall' := hide (show ∀ i, i < k + 1 → inB (L.getD i []) = true from fun i hi => by
            rcases Nat.lt_or_ge i k with h | h
            · exact Hall.out i h
            · obtain rfl : i = k := by omega
              rw [← Hxe.out]
              exact inB_yes fun q hq => Hno.out q (by have := Hn.out; omega))
          go_wp2
          exact ⟨⟨k + 1, by omega, by go_num, Hall'.out, trivial⟩, by simp [intOf]; omega⟩
    · obtain rfl : k = N := by omega
      have HF := hide (show tell ⟨ha, han, hb, hbn, L⟩ = R by
        have h1 : L.all inB = true := all_at (fun j hj => Hall.out j (by rw [HN.out]; exact hj))
        rw [HT.out, h1, Bool.and_true])
      cases R with
      | true =>
        go_wp2
        go_ret
        exact ⟨by rw [HF.out]; rfl, Hb2.out⟩
      | false =>
        go_wp2
        go_ret
        exact ⟨by rw [HF.out]; rfl, Hb2.out⟩
end Go.Proofs.YtfmmececocilhaaDoor.Un
namespace Go.Proofs.YtfmmececocilhaaDoor.Un
open Go Go.RowKit Kt Lw Li Df Hu

theorem app_step (x y z : List UInt8) (h : z = x ++ y) : ByteArray.mk x.toArray ++ ByteArray.mk y.toArray = ⟨z.toArray⟩ := by rw [h]; exact app_txt x y
theorem size_le {x : List UInt8} {n : Nat} (h : x.length ≤ n) : (ByteArray.mk x.toArray).size ≤ n := h
theorem hks_cut {L : List Hk} {k : Nat} {h : Hk} (hk : L[k]? = some h) : (L.map hkT).flatten = ((L.take k).map hkT).flatten ++ (hkT h ++ ((L.drop (k + 1)).map hkT).flatten) := by
  have e : L = L.take k ++ h :: L.drop (k + 1) := by
    obtain ⟨hlt, he⟩ := List.getElem?_eq_some_iff.1 hk
    conv => lhs; rw [← List.take_append_drop k L, List.drop_eq_getElem_cons hlt, he]
  conv => lhs; rw [e]
  simp
theorem hks_snoc {L : List Hk} {k : Nat} {h : Hk} (hk : L[k]? = some h) : ((L.take (k + 1)).map hkT).flatten = ((L.take k).map hkT).flatten ++ hkT h := by
  rw [List.take_add_one, hk]; simp
theorem lines_snoc (l : Ls) (j : Nat) (hj : j < l.length) : ((l.take (j + 1)).map lineT).flatten = ((l.take j).map lineT).flatten ++ lineT (l.getD j []) := by
  rw [List.take_add_one, List.getElem?_eq_getElem hj, List.getD_eq_getElem?_getD, List.getElem?_eq_getElem hj, List.map_append, List.flatten_append]
  simp only [Option.toList_some, Option.getD_some, List.map_cons, List.map_nil, List.flatten_cons, List.flatten_nil, List.append_nil]
theorem lines_cut (l : Ls) (j : Nat) : ((l.take j).map lineT).flatten.length ≤ ((l.map lineT).flatten).length := by
  conv => rhs; rw [← List.take_append_drop j l, List.map_append, List.flatten_append, List.length_append]
  omega
theorem hkT_len {L : List Hk} {k j : Nat} {h : Hk} (hk : L[k]? = some h) {m : Nat} (hm : ((L.map hkT).flatten).length ≤ m) : (((L.take k).map hkT).flatten).length + (headT h.a h.an h.b h.bn).length + (((h.lines.take j).map lineT).flatten).length ≤ m := by
  have h1 := lines_cut h.lines j
  rw [hks_cut hk, List.length_append, List.length_append, hkT, List.length_append] at hm
  omega
set_option maxRecDepth 100000 in
set_option maxHeartbeats 4000000 in
theorem refPrint_any (L : List Hk) (A : Option Addr) (c : Nat) (w : World) (hs : Hks w A c L) (hn : L.length ≤ 12) (hf : ∀ h ∈ L, ¬ tooBig h ∧ ∀ x ∈ h.lines, x.length ≤ 499) (hlen : ((L.map hkT).flatten).length ≤ 12000) :
    Calls Tryd.prog 9 #[.slice A L.length c] w fun y w' => y = .returned (.string ⟨(prt L).toArray⟩) ∧ Below w.heap.size w w' := by
  have Hs := hide hs
  have Hf := hide hf
  have Hlen := hide hlen
  obtain ⟨N, hN⟩ : ∃ N, N = L.length := ⟨_, rfl⟩
  rw [← hN] at hn ⊢
  have HN := hide hN
  clear hs hN hf hlen
  go_enter Tryd.func9, Tryd.ntmps9
  go_wp2
  go_loopw [3, 4] (fun s i wr => ∃ (k : Nat) (T : List UInt8), k ≤ N ∧ i = .int .i64 k ∧ s = .string ⟨T.toArray⟩ ∧ Hid (T = ((L.take k).map hkT).flatten) ∧ (L.take k).all tell = true ∧ Below w.heap.size w wr) (fun _ i _ => N - (intOf i).toNat)
  case atStart => exact ⟨0, [], Nat.zero_le _, rfl, rfl, hide rfl, rfl, Below.refl _ _⟩
  case round =>
    obtain ⟨k, T, hk, rfl, rfl, HT, hall, hb⟩ := hrel
    have Hb := hide hb
    have Hall := hide hall
    clear hb hall
    by_cases hlt : k < N
    · obtain ⟨b, o, h, A', c', rfl, hke, ⟨c0, c1, c2, c3, c4⟩, hv⟩ := Hs.out.at Hb.out (k := k) (by have := HN.out; omega)
      have hfh := Hf.out h (List.mem_of_getElem? hke)
      have HC := hide (fun w' (hb : Below w.heap.size w w') => can_any h.a h.an h.b h.bn h.lines A' c' _ w' (Lw.Vs.below hv hb) hfh.1 (fun x hx => Nat.le_trans (hfh.2 x hx) (by omega)))
      have Hlk := hide (fun j => hkT_len (j := j) hke Hlen.out)
      have Hsn := hide (hks_snoc hke)
      have Hke := hide hke
      have hall' : (L.take (k + 1)).all tell = tell h := by
        rw [List.take_add_one, hke]
        simp [Hall.out]
      have Hall' := hide hall'
      have hte : tell ⟨h.a, h.an, h.b, h.bn, h.lines⟩ = tell h := rfl
      rw [hte] at HC
      rw [← HT.out] at Hlk Hsn
      cases ht : tell h with
      | false =>
        rw [ht] at HC
        have HF := hide (show prt L = [] by
          rw [prt, if_neg]
          intro hc
          have := List.all_eq_true.1 hc h (List.mem_of_getElem? Hke.out)
          rw [ht] at this; cases this)
        have HC' := hide (HC.out wr Hb.out)
        obtain ⟨za, hza⟩ : ∃ z, z = h.a := ⟨_, rfl⟩
        obtain ⟨zan, hzan⟩ : ∃ z, z = h.an := ⟨_, rfl⟩
        obtain ⟨zb, hzb⟩ : ∃ z, z = h.b := ⟨_, rfl⟩
        obtain ⟨zbn, hzbn⟩ : ∃ z, z = h.bn := ⟨_, rfl⟩
        obtain ⟨nh, hnh⟩ : ∃ z, z = h.lines.length := ⟨_, rfl⟩
        rw [← hza] at c0 HC'
        rw [← hzan] at c1 HC'
        rw [← hzb] at c2 HC'
        rw [← hzbn] at c3 HC'
        rw [← hnh] at c4 HC'
        clear hza hzan hzb hzbn hnh HC Hall' hall' hte ht hfh hke hv
        go_wp2_with fail
        refine HC'.out.mono ?_
        rintro y w2 ⟨rfl, hb2⟩
        have Hb2 := hide (Hb.out.trans (hb2.mono Hb.out.size))
        clear hb2
        go_wp2
        go_ret
        exact ⟨by rw [HF.out]; rfl, Hb2.out⟩
      | true =>
        rw [ht] at HC Hall'
        obtain ⟨p1, p2, p3, p4, p5, p6⟩ := tell_iff.1 ht
        have p2' := p2.2
        have p3' := p3.2
        have HA := hide (fun w' => refSide_any h.a h.an w' (by have := hfh.1; unfold tooBig at this; have := p2.1; omega) (by omega))
        have HB := hide (fun w' => refSide_any h.b h.bn w' (by have := hfh.1; unfold tooBig at this; have := p3.1; omega) (by omega))
        have l1 : (sideT h.a h.an).length ≤ 23 := by
          have := hfh.1; unfold tooBig at this
          have := p2.1
          exact sideT_len _ _ (by omega) (by omega)
        have l2 : (sideT h.b h.bn).length ≤ 23 := by
          have := hfh.1; unfold tooBig at this
          have := p3.1
          exact sideT_len _ _ (by omega) (by omega)
        have HH := hide (show headT h.a h.an h.b h.bn = opensB ++ (sideT h.a h.an ++ (plusB ++ (sideT h.b h.bn ++ closesB))) from rfl)
        have hTl : T.length ≤ 12000 := by have := Hlk.out 0; omega
        have Hkt := hide (show hkT h = headT h.a h.an h.b h.bn ++ (h.lines.map lineT).flatten from rfl)
        have Hxl := hide hfh.2
        generalize sideT h.a h.an = sA at *
        generalize sideT h.b h.bn = sB at *
        generalize headT h.a h.an h.b h.bn = hT at *
        have HC' := hide (HC.out wr Hb.out)
        obtain ⟨za, hza⟩ : ∃ z, z = h.a := ⟨_, rfl⟩
        obtain ⟨zan, hzan⟩ : ∃ z, z = h.an := ⟨_, rfl⟩
        obtain ⟨zb, hzb⟩ : ∃ z, z = h.b := ⟨_, rfl⟩
        obtain ⟨zbn, hzbn⟩ : ∃ z, z = h.bn := ⟨_, rfl⟩
        obtain ⟨nh, hnh⟩ : ∃ z, z = h.lines.length := ⟨_, rfl⟩
        rw [← hza] at c0 HC' HA
        rw [← hzan] at c1 HC' HA
        rw [← hzb] at c2 HC' HB
        rw [← hzbn] at c3 HC' HB
        rw [← hnh] at c4 HC'
        have hnh30 : nh ≤ 30 := by
          have := hfh.1
          unfold tooBig at this; omega
        have Hnh := hide hnh
        have Hv := hide hv
        clear hza hzan hzb hzbn hnh HC hall' hte ht hfh hke hv p1 p2 p3 p4 p5 p6 p2' p3'
        obtain ⟨X1, e1⟩ : ∃ X, X = T ++ [64, 64, 32, 45] := ⟨_, rfl⟩
        obtain ⟨X2, e2⟩ : ∃ X, X = X1 ++ sA := ⟨_, rfl⟩
        obtain ⟨X3, e3⟩ : ∃ X, X = X2 ++ [32, 43] := ⟨_, rfl⟩
        obtain ⟨X4, e4⟩ : ∃ X, X = X3 ++ sB := ⟨_, rfl⟩
        obtain ⟨X5, e5⟩ : ∃ X, X = X4 ++ [32, 64, 64] := ⟨_, rfl⟩
        obtain ⟨X6, e6⟩ : ∃ X, X = X5 ++ [10] := ⟨_, rfl⟩
        have He6 := hide (show X6 = T ++ hT by rw [e6, e5, e4, e3, e2, e1, HH.out]; simp [opensB, plusB, closesB])
        have z0 := size_le hTl
        have zA := size_le l1
        have zB := size_le l2
        have z1 : (ByteArray.mk X1.toArray).size ≤ 12100 := size_le (by rw [e1]; simp; omega)
        have z2 : (ByteArray.mk X2.toArray).size ≤ 12100 := size_le (by rw [e2, e1]; simp; omega)
        have z3 : (ByteArray.mk X3.toArray).size ≤ 12100 := size_le (by rw [e3, e2, e1]; simp; omega)
        have z4 : (ByteArray.mk X4.toArray).size ≤ 12100 := size_le (by rw [e4, e3, e2, e1]; simp; omega)
        have z5 : (ByteArray.mk X5.toArray).size ≤ 12100 := size_le (by rw [e5, e4, e3, e2, e1]; simp; omega)
        have y1 : ¬ 9223372036854775807 < T.length + 4 := by have : T.length ≤ 12000 := z0; omega
        have y2 : ¬ 9223372036854775807 < X1.length + sA.length := by have : X1.length ≤ 12100 := z1; have : sA.length ≤ 23 := zA; omega
        have y3 : ¬ 9223372036854775807 < X2.length + 2 := by have : X2.length ≤ 12100 := z2; omega
        have y4 : ¬ 9223372036854775807 < X3.length + sB.length := by have : X3.length ≤ 12100 := z3; have : sB.length ≤ 23 := zB; omega
        have y5 : ¬ 9223372036854775807 < X4.length + 3 := by have : X4.length ≤ 12100 := z4; omega
        have y6 : ¬ 9223372036854775807 < X5.length + 1 := by have : X5.length ≤ 12100 := z5; omega
        have a1 := app_step _ _ _ e1
        have a2 := app_step _ _ _ e2
        have a3 := app_step _ _ _ e3
        have a4 := app_step _ _ _ e4
        have a5 := app_step _ _ _ e5
        have a6 := app_step _ _ _ e6
        clear e1 e2 e3 e4 e5 e6 HH hTl l1 l2
        go_wp2_with fail
        refine HC'.out.mono ?_
        rintro y w2 ⟨rfl, hb2⟩
        have Hb2 := hide (Hb.out.trans (hb2.mono Hb.out.size))
        have d0 := cell_keep hb2 c0
        have d1 := cell_keep hb2 c1
        have d2 := cell_keep hb2 c2
        have d3 := cell_keep hb2 c3
        have d4 := cell_keep hb2 c4
        clear c0 c1 c2 c3 c4 hb2 HC'
        go_wp2_with fail
        go_quiet (first | with_reducible exact Calls.quiet_of_same (HA.out _) | with_reducible exact Calls.quiet_of_same (HB.out _))
        obtain ⟨w3, hw3⟩ : ∃ w3, w3 = w2.drewN nq := ⟨_, rfl⟩
        have Hb3 := hide (show Below w.heap.size w w3 by rw [hw3]; exact below_drewN Hb2.out _)
        have k4 : w3.cell? ⟨b, o + k * 5 + 4, none⟩ = some (.slice A' nh c') := by rw [hw3]; exact d4
        rw [← hw3]
        clear hw3 d0 d1 d2 d3 d4 Hb2 a1 a2 a3 a4 a5 a6 y1 y2 y3 y4 y5 y6 z0 zA zB z1 z2 z3 z4 z5 HA HB
        have Hk4 := hide k4
        clear k4
        go_wp2
        go_loopw [3, 6] (fun s i wr' => ∃ (j : Nat) (U : List UInt8), j ≤ nh ∧ i = .int .i64 j ∧ s = .string ⟨U.toArray⟩ ∧ Hid (U = T ++ (hT ++ ((h.lines.take j).map lineT).flatten)) ∧ Hid (Below w.heap.size w wr' ∧ wr'.cell? ⟨b, o + k * 5 + 4, none⟩ = some (.slice A' nh c'))) (fun _ i _ => nh - (intOf i).toNat)
        case atStart => exact ⟨0, X6, Nat.zero_le _, rfl, rfl, hide (by rw [He6.out]; simp), hide ⟨Hb3.out, Hk4.out⟩⟩
        case round =>
          obtain ⟨j, U, hj, rfl, rfl, HU, Hw⟩ := hrel
          have k4 := Hw.out.2
          by_cases hlj : j < nh
          · have hlj' : j < h.lines.length := by rw [← Hnh.out]; exact hlj
            obtain ⟨bl, ol, rfl, ck⟩ := Hv.out.text Hw.out.1 (k := j) hlj'
            have hxl := Hxl.out (h.lines.getD j []) (getD_mem hlj')
            have Hls := hide (lines_snoc h.lines j hlj')
            have hUl : U.length ≤ 12000 := by
              have := Hlk.out j
              rw [HU.out, List.length_append, List.length_append]; omega
            obtain ⟨x, hxe⟩ : ∃ x, x = h.lines.getD j [] := ⟨_, rfl⟩
            rw [← hxe] at ck hxl Hls
            have HCl := hide (fun w' => refClosed_any x w' (by omega))
            have z1 := size_le hUl
            have z2 := size_le hxl
            obtain ⟨U1, e1⟩ : ∃ X, X = U ++ x := ⟨_, rfl⟩
            have z3 : (ByteArray.mk U1.toArray).size ≤ 12500 := size_le (by rw [e1, List.length_append]; omega)
            have a1 := app_step _ _ _ e1
            have Hlx := hide (show lineT x = if closed x then x else x ++ 10 :: markB from rfl)
            have He1 := hide e1
            clear hxe hxl hUl e1 hlj'
            cases hc : closed x with
            | true =>
              rw [hc] at HCl Hlx
              have HU' := hide (show U1 = T ++ (hT ++ ((h.lines.take (j + 1)).map lineT).flatten) by
                rw [Hls.out, Hlx.out, He1.out, HU.out]; simp)
              go_wp2_with fail
              refine (HCl.out _).mono ?_
              rintro y w5 ⟨rfl, rfl⟩
              go_wp2
              exact ⟨⟨j + 1, U1, by omega, by go_num, rfl, hide HU'.out, hide Hw.out⟩, by simp [intOf]; omega⟩
            | false =>
              rw [hc] at HCl Hlx
              obtain ⟨U2, e2⟩ : ∃ X, X = U1 ++ [10] := ⟨_, rfl⟩
              obtain ⟨U3, e3⟩ : ∃ X, X = U2 ++ markB := ⟨_, rfl⟩
              have HU' := hide (show U3 = T ++ (hT ++ ((h.lines.take (j + 1)).map lineT).flatten) by
                rw [Hls.out, Hlx.out, e3, e2, He1.out, HU.out]; simp)
              have z4 : (ByteArray.mk U2.toArray).size ≤ 12501 := size_le (by rw [e2, List.length_append]; exact Nat.add_le_add_right z3 1)
              have a2 := app_step _ _ _ e2
              have a3 := app_step _ _ _ e3
              have z5 : (ByteArray.mk markB.toArray).size ≤ 28 := size_le (by decide)
              have y1 : ¬ 9223372036854775807 < (ByteArray.mk U1.toArray).size + 1 := by omega
              have HMk := hide mark_any
              obtain ⟨mB, hmB⟩ : ∃ m, m = markB := ⟨_, rfl⟩
              rw [← hmB] at a3 z5 HMk
              clear e2 e3 hmB hc
              go_wp2_with fail
              refine (HCl.out _).mono ?_
              rintro y w5 ⟨rfl, rfl⟩
              go_wp2_with fail
              refine (HMk.out _).mono ?_
              rintro y w6 ⟨rfl, rfl⟩
              go_wp2
              exact ⟨⟨j + 1, U3, by omega, by go_num, rfl, hide HU'.out, hide Hw.out⟩, by simp [intOf]; omega⟩
          · obtain rfl : j = nh := by omega
            have HU' := hide (show U = ((L.take (k + 1)).map hkT).flatten by
              rw [Hsn.out, Hkt.out, HU.out, Hnh.out, List.take_length])
            go_wp2
            exact ⟨⟨k + 1, U, by omega, by go_num, rfl, hide HU'.out, Hall'.out, Hw.out.1⟩, by simp [intOf]; omega⟩
    · obtain rfl : k = N := by omega
      have HF := hide (show prt L = T by
        have := Hall.out
        rw [HT.out]
        rw [HN.out, List.take_length] at this ⊢
        rw [prt, if_pos this])
      clear Hlen
      go_wp2
      go_ret
      exact ⟨by rw [HF.out]; rfl, Hb.out⟩
end Go.Proofs.YtfmmececocilhaaDoor.Un
namespace Go.Proofs.YtfmmececocilhaaDoor.Un
open Go Go.RowKit Kt Lw Li Df Hu

set_option maxRecDepth 100000 in
set_option maxHeartbeats 4000000 in
theorem lawPrints_any (L : List Hk) (A : Option Addr) (c : Nat) (w : World) (hs : Hks w A c L) (hE : Env w) (hl : L.length ≤ 9223372036854775807) :
    Calls Tryd.prog 3 #[.slice A L.length c] w fun y w' => y = .returned (.bool true) ∧ Below w.heap.size w w' := by
  have Hs := hide hs
  have HE := hide (fun w' (hb : Below w.heap.size w w') => hE.keep hb)
  have HFw := hide (fun w1 (hb1 : Below w.heap.size w w1) => fewU_any L A c w1 (hs.keep hb1) hl)
  have Haw := hide (awake_any w hE)
  obtain ⟨N, hN⟩ : ∃ N, N = L.length := ⟨_, rfl⟩
  rw [← hN] at HFw hl ⊢
  have HN := hide hN
  clear hs hE hN
  cases hf : fewU L with
  | false =>
    rw [hf] at HFw
    clear hf Hs HE HN
    go_enter Tryd.func3, Tryd.ntmps3
    go_wp2_with fail
    refine Haw.out.mono ?_
    rintro y w1 ⟨rfl, hb1⟩
    go_wp2_with fail
    refine (HFw.out w1 hb1).mono ?_
    rintro y w2 ⟨rfl, hb2⟩
    have hb3 := hb1.trans (hb2.mono hb1.size)
    clear hb1 hb2
    go_wp2
    go_ret
    exact ⟨rfl, hb3⟩
  | true =>
  rw [hf] at HFw
  have Hfit := hide (few_fit hf)
  have Hshort := hide (few_short hf)
  have HPr := hide (fun w1 (hb1 : Below w.heap.size w w1) => print_any L A c w1 (Hs.out.keep hb1) (HE.out w1 hb1) (by have := Hshort.out.2.1; omega) (by have := Hfit.out.2.1; omega) Hfit.out.1)
  have HRf := hide (fun w1 (hb1 : Below w.heap.size w w1) => refPrint_any L A c w1 (Hs.out.keep hb1) Hshort.out.2.1 Hshort.out.1 Hfit.out.2.1)
  rw [← HN.out] at HPr HRf
  have hq := eq_txt (prt L) (prt L)
  rw [decide_eq_true rfl] at hq
  generalize prt L = T at *
  clear hf hl
  go_enter Tryd.func3, Tryd.ntmps3
  go_wp2_with fail
  refine Haw.out.mono ?_
  rintro y w1 ⟨rfl, hb1⟩
  have Hb1 := hide hb1
  clear hb1 Haw
  go_wp2_with fail
  refine (HFw.out w1 Hb1.out).mono ?_
  rintro y w2 ⟨rfl, hb2⟩
  have Hb2 := hide (Hb1.out.trans (hb2.mono Hb1.out.size))
  clear hb2 HFw Hb1
  go_wp2_with fail
  refine (HPr.out w2 Hb2.out).mono ?_
  rintro y w3 ⟨rfl, hb3⟩
  have Hb3 := hide (Hb2.out.trans (hb3.mono Hb2.out.size))
  clear hb3 HPr Hb2
  go_wp2_with fail
  refine (HRf.out w3 Hb3.out).mono ?_
  rintro y w4 ⟨rfl, hb4⟩
  have Hb4 := hide (Hb3.out.trans (hb4.mono Hb3.out.size))
  clear hb4 HRf Hb3
  go_wp2
  go_ret
  exact ⟨rfl, Hb4.out⟩
end Go.Proofs.YtfmmececocilhaaDoor.Un
