/-
  order: ids sorted by rank by the library: slices.SortFunc.
-/
import Derived.Test.YtplmcpdlommmaaaQCJ
import Derived.Lib.SliceRun
namespace Go.Proofs.Ytplmcpdlommmaaa.Oq
open Go Go.RowKit Kt Kg Lw Tr Dq

set_option maxRecDepth 100000 in
set_option maxHeartbeats 4000000 in
theorem len64_any (x : Nat) (hx : x ≤ 14) (w : World) : Calls Try.prog 90 #[.int .u64 x] w fun y w' => (∃ L : Nat, y = .returned (.int .i64 L) ∧ L ≤ 4 ∧ (8 ≤ x → L = 4)) ∧ w' = w := by
  obtain rfl | rfl | rfl | rfl | rfl | rfl | rfl | rfl | rfl | rfl | rfl | rfl | rfl | rfl | rfl : x = 0 ∨ x = 1 ∨ x = 2 ∨ x = 3 ∨ x = 4 ∨ x = 5 ∨ x = 6 ∨ x = 7 ∨ x = 8 ∨ x = 9 ∨ x = 10 ∨ x = 11 ∨ x = 12 ∨ x = 13 ∨ x = 14 := by omega
  all_goals
    go_enter Try.func90, Try.ntmps90
    go_wp2
    go_ret
  exact ⟨⟨0, by kernel_rfl, by omega, by omega⟩, rfl⟩
  exact ⟨⟨1, by kernel_rfl, by omega, by omega⟩, rfl⟩
  exact ⟨⟨2, by kernel_rfl, by omega, by omega⟩, rfl⟩
  exact ⟨⟨2, by kernel_rfl, by omega, by omega⟩, rfl⟩
  exact ⟨⟨3, by kernel_rfl, by omega, by omega⟩, rfl⟩
  exact ⟨⟨3, by kernel_rfl, by omega, by omega⟩, rfl⟩
  exact ⟨⟨3, by kernel_rfl, by omega, by omega⟩, rfl⟩
  exact ⟨⟨3, by kernel_rfl, by omega, by omega⟩, rfl⟩
  exact ⟨⟨4, by kernel_rfl, by omega, by omega⟩, rfl⟩
  exact ⟨⟨4, by kernel_rfl, by omega, by omega⟩, rfl⟩
  exact ⟨⟨4, by kernel_rfl, by omega, by omega⟩, rfl⟩
  exact ⟨⟨4, by kernel_rfl, by omega, by omega⟩, rfl⟩
  exact ⟨⟨4, by kernel_rfl, by omega, by omega⟩, rfl⟩
  exact ⟨⟨4, by kernel_rfl, by omega, by omega⟩, rfl⟩
  exact ⟨⟨4, by kernel_rfl, by omega, by omega⟩, rfl⟩
set_option maxRecDepth 100000 in
set_option maxHeartbeats 4000000 in
theorem blen_any (x : Nat) (hx : x ≤ 14) (w : World) : Calls Try.prog 66 #[.int .u64 x] w fun y w' => (∃ L : Nat, y = .returned (.int .i64 L) ∧ L ≤ 4 ∧ (8 ≤ x → L = 4)) ∧ w' = w := by
  have H := hide (len64_any x hx w)
  clear hx
  go_enter Try.func66, Try.ntmps66
  go_wp2_with fail
  refine H.out.mono ?_
  rintro e w1 ⟨⟨L, rfl, h1, h2⟩, rfl⟩
  have H2 := hide h2
  clear H h2
  go_wp2
  go_ret
  exact ⟨⟨L, rfl, h1, H2.out⟩, rfl⟩
set_option maxRecDepth 100000 in
set_option maxHeartbeats 4000000 in
/-- no more than twelve -/
theorem pdqS_any {w : World} {g gd cap n : Nat} {D : List Nd} (H : Cmp w g D gd) {W : World} (hW : w.grownBy W (some g)) {l : List Bs} (hO : OwT W 0 tId (slV g n cap) l) (hn : n ≤ 1000) (hs : ∀ x ∈ l, x.length ≤ 50) (a b : Nat) (ha : a ≤ b) (hb : b ≤ n) (h12 : b ≤ a + 12) (L : Int) :
    Calls Try.prog 75 #[slV g n cap, .int .i64 a, .int .i64 b, .int .i64 L, .func (.func fCmp) #[.agg #[pt gd]] #[]] W fun y w' => y = .returned (.tuple #[]) ∧ ∃ l', OwT w' 0 tId (slV g n cap) l' ∧ w.grownBy w' (some g) ∧ Mvd l l' a b ∧ Asc D l' a b := by
  have HI := hide (insert_any H hW hO hn hs a b (by omega) hb)
  obtain ⟨k, rfl⟩ : ∃ k, b = a + k := ⟨b - a, by omega⟩
  have d1 : decide (((a + k : Nat) : Int) - (a : Int) ≤ 12) = true := decide_eq_true (by omega)
  have e1 : ((a + k : Nat) : Int) - (a : Int) = (k : Int) := by omega
  have e2 : (a : Int) + (k : Int) - (a : Int) = (k : Int) := by omega
  have d2 : decide ((k : Int) ≤ 12) = true := decide_eq_true (by omega)
  have hk : k ≤ 12 := by omega
  clear H hW hO hs ha h12 d1
  go_enter Try.func75, Try.ntmps75
  go_wp2
  refine wp_loop_rounds 1 ?_
  rw [rounds_succ]
  go_wp2_with fail
  refine HI.out.mono ?_
  rintro y w1 ⟨rfl, h1⟩
  have H1 := hide h1
  clear h1 HI
  go_wp2
  (try simp only [Exit.inBlock, Exit.then])
  refine bodyPost_ret (results_none rfl _ _ _) rfl ?_
  exact ⟨rfl, H1.out⟩
set_option maxRecDepth 100000 in
set_option maxHeartbeats 4000000 in
/-- slices.SortFunc by rank -/
theorem sortF_any {w : World} {g gd cap n : Nat} {D : List Nd} (H : Cmp w g D gd) {l : List Bs} (hO : OwT w 0 tId (slV g n cap) l) (hs : ∀ x ∈ l, x.length ≤ 50) (hn : n ≤ 12) :
    Calls Try.prog 56 #[slV g n cap, .func (.func fCmp) #[.agg #[pt gd]] #[]] w fun y w' => y = .returned (.tuple #[]) ∧ ∃ l', OwT w' 0 tId (slV g n cap) l' ∧ w.grownBy w' (some g) ∧ l'.Perm l ∧ Asc D l' 0 n := by
  have HB := hide (blen_any n (by omega) w)
  have HP := hide (fun L => pdqS_any H (World.grownBy.refl w (some g)) hO (by omega) hs 0 n (Nat.zero_le _) (Nat.le_refl _) (by omega) L)
  have wr1 : IntKind.u64.wrap (n : Int) = (n : Int) := by simp [IntKind.wrap, IntKind.bits, IntKind.signed]; omega
  clear H hO hs
  go_enter Try.func56, Try.ntmps56
  go_wp2_with fail
  refine HB.out.mono ?_
  rintro y w1 ⟨⟨L, rfl, _, _⟩, rfl⟩
  clear HB
  go_wp2_with fail
  refine (HP.out _).mono ?_
  rintro y w2 ⟨rfl, l', h1, h2, h3, h4⟩
  have H1 := hide (And.intro h1 (And.intro h2 (And.intro h3.perm h4)))
  clear h1 h2 h3 h4 HP
  go_wp2
  go_end0
  exact ⟨rfl, l', H1.out⟩
set_option maxRecDepth 100000 in
set_option maxHeartbeats 4000000 in
/-- .. of none -/
theorem insert_none (A : Option Addr) (c : Nat) (f : Value) (w : World) : Calls Try.prog 95 #[.slice A 0 c, .int .i64 0, .int .i64 0, f] w fun y w' => y = .returned (.tuple #[]) ∧ w' = w := by
  go_enter Try.func95, Try.ntmps95
  go_wp2
  refine wp_loop_rounds 1 ?_
  rw [rounds_succ]
  go_wp2
  go_end0
  exact ⟨rfl, rfl⟩
set_option maxRecDepth 100000 in
set_option maxHeartbeats 4000000 in
theorem pdq_none (A : Option Addr) (c : Nat) (L : Int) (f : Value) (w : World) : Calls Try.prog 75 #[.slice A 0 c, .int .i64 0, .int .i64 0, .int .i64 L, f] w fun y w' => y = .returned (.tuple #[]) ∧ w' = w := by
  go_enter Try.func75, Try.ntmps75
  go_wp2
  refine wp_loop_rounds 1 ?_
  rw [rounds_succ]
  go_wp2_with fail
  refine (insert_none A c f w).mono ?_
  rintro y w1 ⟨rfl, rfl⟩
  go_wp2
  (try simp only [Exit.inBlock, Exit.then])
  refine bodyPost_ret (results_none rfl _ _ _) rfl ?_
  exact ⟨rfl, rfl⟩
set_option maxRecDepth 100000 in
set_option maxHeartbeats 4000000 in
theorem sortF_none (A : Option Addr) (c : Nat) (f : Value) (w : World) : Calls Try.prog 56 #[.slice A 0 c, f] w fun y w' => y = .returned (.tuple #[]) ∧ w' = w := by
  have HB := hide (blen_any 0 (by omega) w)
  go_enter Try.func56, Try.ntmps56
  go_wp2_with fail
  refine HB.out.mono ?_
  rintro y w1 ⟨⟨L, rfl, _, _⟩, rfl⟩
  clear HB
  go_wp2_with fail
  refine (pdq_none A c _ f w1).mono ?_
  rintro y w2 ⟨rfl, rfl⟩
  go_wp2
  go_end0
  exact ⟨rfl, rfl⟩
end Go.Proofs.Ytplmcpdlommmaaa.Oq
namespace Go.Proofs.Ytplmcpdlommmaaa.Oq
open Go Go.RowKit Kt Kg Lw Tr Dq

abbrev fRk : Nat := 55
/-- the closure, wherever the row has turned -/
def Dlt (w : World) (g : Nat) (D : List Nd) (bx : Nat) : Prop := ∀ W, w.grownBy W (some g) → ∀ (x : Bs), x.length ≤ 50 →
  Calls Try.prog 55 #[.string ⟨x.toArray⟩, .pointer (some ⟨bx, 0, none⟩)] W fun y w' => y = .returned (.bool (!has D x)) ∧ Hid (Below W.heap.size W w')
set_option maxRecDepth 100000 in
set_option maxHeartbeats 1000000 in
theorem rk1_any {w0 : World} {In : World → (Nat → Prop) → Nat → List Nd → Prop} (C : Cd w0 In) {w : World} {S : Nat → Prop} {g : Nat} {D : List Nd} (hlow : Below w0.heap.size w0 w) (h : In w S g D) (hK : Okd D) {bx : Nat} (hc : w.cell? ⟨bx, 0, none⟩ = some (pt g)) (x : Bs) (hx : x.length ≤ 50) :
    Calls Try.prog 55 #[.string ⟨x.toArray⟩, .pointer (some ⟨bx, 0, none⟩)] w fun y w' => y = .returned (.bool (!has D x)) ∧ Hid (Below w.heap.size w w') := by
  have HH := hide (C.has x hlow h hK hx)
  clear hlow h hK hx C
  go_enter Try.func55, Try.ntmps55
  go_wp2_with fail
  refine HH.out.mono ?_
  rintro y w1 ⟨rfl, hb⟩
  have HB := hide hb
  clear hb HH
  go_wp2
  go_ret
  exact ⟨rfl, HB⟩
set_option maxRecDepth 100000 in
set_option maxHeartbeats 4000000 in
/-- slices.IndexFunc: the first one that isn't in -/
theorem index_any {w : World} {g bx cap n : Nat} {D : List Nd} (H : Dlt w g D bx) {W : World} (hW : w.grownBy W (some g)) {l : List Bs} (hO : OwT W 0 tId (slV g n cap) l) (hn : n ≤ 1000) (hs : ∀ x ∈ l, x.length ≤ 50) :
    Calls Try.prog 74 #[slV g n cap, .func (.func fRk) #[] #[.pointer (some ⟨bx, 0, none⟩)]] W fun y w' => (∃ r : Int, y = .returned (.int .i64 r) ∧ ((r = -1 ∧ ∀ x ∈ l, has D x = true) ∨ ∃ i : Nat, r = (i : Int) ∧ i < n ∧ (∀ x ∈ l.take i, has D x = true) ∧ has D (at_ l i) = false)) ∧ Below W.heap.size W w' := by
  have HH := hide H
  have HL := hide (own_len hO)
  have HS := hide hs
  have HO := hide hO
  have HW := hide hW
  clear H hO hW hs
  go_enter Try.func74, Try.ntmps74
  go_wp2
  go_loopw [8] (fun iv wr => ∃ i : Nat, iv = .int .i64 i ∧ i ≤ n ∧ Hid (∀ x ∈ l.take i, has D x = true) ∧ Hid (Below W.heap.size W wr)) (fun iv _ => n - (intOf iv).toNat)
  case atStart => exact ⟨0, rfl, Nat.zero_le _, by show Hid _; exact hide (fun x hx => by simp at hx), by show Hid _; exact hide (Below.refl _ _)⟩
  case round =>
    obtain ⟨i, rfl, hi, HA, HB⟩ := hrel
    by_cases hlt : i < n
    · have hOr := HO.out.kept HB.out
      obtain ⟨c1, _⟩ := rdy_cell hOr (k := i) (by rw [HL.out]; exact hlt)
      change wr.cell? ⟨g, i, none⟩ = some (encStr (at_ l i)) at c1
      have hxi : at_ l i ∈ l := by unfold at_; rw [List.getD_eq_getElem?_getD, List.getElem?_eq_getElem (by rw [HL.out]; exact hlt)]; exact List.getElem_mem _
      have HCx := hide (HH.out wr (grown_below HW.out HB.out) (at_ l i) (HS.out _ hxi))
      have HTk := hide (show l.take (i + 1) = l.take i ++ [at_ l i] from by
        rw [List.take_add_one, List.getElem?_eq_getElem (by rw [HL.out]; exact hlt)]
        unfold at_
        rw [List.getD_eq_getElem?_getD, List.getElem?_eq_getElem (by rw [HL.out]; exact hlt)]; rfl)
      obtain ⟨x, hx⟩ : ∃ x, x = at_ l i := ⟨_, rfl⟩
      rw [← hx] at c1 HCx HTk
      have HX := hide hx
      clear hx hxi hOr
      go_wp2_with fail
      refine HCx.out.mono ?_
      rintro y w2 ⟨rfl, hb2⟩
      have HB2 := hide (HB.out.trans (hb2.out.mono HB.out.size))
      clear hb2 HCx c1
      cases hh : has D x with
      | true =>
        have HA2 := hide (show ∀ y ∈ l.take (i + 1), has D y = true from fun y hy => by
          rw [HTk.out] at hy
          rcases List.mem_append.1 hy with hy | hy
          · exact HA.out y hy
          · rw [List.mem_singleton.1 hy]; exact hh)
        clear hh
        go_wp2
        exact ⟨⟨i + 1, by go_num, by omega, by show Hid _; exact HA2, by show Hid _; exact HB2⟩, by simp [intOf]; omega⟩
      | false =>
        have HF := hide (show has D (at_ l i) = false from by rw [← HX.out]; exact hh)
        clear hh
        go_wp2
        go_ret
        exact ⟨⟨i, rfl, .inr ⟨i, rfl, hlt, HA.out, HF.out⟩⟩, HB2.out⟩
    · obtain rfl : i = n := by omega
      have HF := hide (show ∀ x ∈ l, has D x = true from by have := HA.out; rwa [← HL.out, List.take_length] at this)
      go_wp2
      go_ret
      exact ⟨⟨-1, rfl, .inl ⟨rfl, HF.out⟩⟩, HB.out⟩
theorem zeroS (w : World) : (zeroValue tId).run Try.prog w = .ok (.string ⟨#[]⟩) w := by kernel_rfl
theorem own_past {w : World} {g m cap o : Nat} {l : List Bs} (h : OwT w 0 tId (slV g m cap) l) (ho : m ≤ o) (u : Value) : OwT (w.setCell ⟨g, o, none⟩ u) 0 tId (slV g m cap) l := by
  have hm := own_len h
  refine ⟨h.1, ?_⟩
  rcases h.2 with ⟨h1, _⟩ | ⟨g', cap', cur, hv, hB, hg, hnc, hcm, hs, ht⟩
  · cases h1
  · injection hv with e1 e2 e3
    injection e1 with e1
    injection e1 with e1 _ _
    subst e1
    subst e3
    refine .inr ⟨g, cap, cur.setIfInBounds o u, by rw [← e2], hB, ?_, hnc, hcm, by simpa using hs, ?_⟩
    · rw [Go.Sort.setCell_eq]
      show (w.heap.modify g _)[g]? = _
      rw [Array.getElem?_modify, if_pos rfl, hg]
      rfl
    · rw [Array.toList_setIfInBounds, List.take_set_of_le (by rw [Nat.mul_one, hm]; exact ho)]
      exact ht
theorem own_pasts {g m cap : Nat} {l : List Bs} : ∀ (vs : List Value) (o : Nat) (w : World), OwT w 0 tId (slV g m cap) l → m ≤ o → OwT (w.setCells g o vs) 0 tId (slV g m cap) l
  | [], _, _, h, _ => by rw [World.setCells]; exact h
  | v :: r, o, w, h, ho => by rw [World.setCells]; exact own_pasts r _ _ (own_past h ho v) (by omega)
set_option maxRecDepth 100000 in
set_option maxHeartbeats 4000000 in
/-- slices.DeleteFunc: those that are in stay -/
theorem delete_any {w : World} {g bx cap n : Nat} {D : List Nd} (H : Dlt w g D bx) {l : List Bs} (hO : OwT w 0 tId (slV g n cap) l) (hn : n ≤ 1000) (hs : ∀ x ∈ l, x.length ≤ 50) :
    Calls Try.prog 54 #[slV g n cap, .func (.func fRk) #[] #[.pointer (some ⟨bx, 0, none⟩)]] w fun y w' => ∃ m, y = .returned (slV g m cap) ∧ OwT w' 0 tId (slV g m cap) (l.filter (has D)) ∧ w.grownBy w' (some g) := by
  have HIx := hide (index_any H (World.grownBy.refl w (some g)) hO hn hs)
  have HH := hide H
  have HL := hide (own_len hO)
  have HS := hide hs
  have HO := hide hO
  clear H hO hs
  go_enter Try.func54, Try.ntmps54
  go_wp2_with fail
  refine HIx.out.mono ?_
  rintro y w1 ⟨⟨r, rfl, hr⟩, hb1⟩
  have HO1 := hide (HO.out.kept hb1)
  have HW1 := hide (grown_below (World.grownBy.refl w (some g)) hb1)
  clear hb1 HIx HO
  rcases hr with ⟨rfl, hall⟩ | ⟨i, rfl, hin, hpre, hi0⟩
  · have HF := hide (show l.filter (has D) = l from List.filter_eq_self.2 hall)
    clear hall
    go_wp2
    go_ret
    exact ⟨n, rfl, by rw [HF.out]; exact HO1.out, HW1.out⟩
  · have HT0 := hide (show l.take i = (l.take (i + 1)).filter (has D) from by
      have e : l.take (i + 1) = l.take i ++ [at_ l i] := by
        rw [List.take_add_one, List.getElem?_eq_getElem (by rw [HL.out]; exact hin)]
        unfold at_
        rw [List.getD_eq_getElem?_getD, List.getElem?_eq_getElem (by rw [HL.out]; exact hin)]; rfl
      rw [e, List.filter_append, List.filter_eq_self.2 hpre, List.filter_cons, if_neg (by rw [hi0]; decide), List.filter_nil, List.append_nil])
    have hne : ((i : Int) == -1) = false := by rw [beq_eq_false_iff_ne]; omega
    have hcap : n ≤ cap := by
      rcases HO1.out.2 with ⟨h1, _⟩ | ⟨_, _, _, hv, _, _, hnc, _⟩
      · cases h1
      · injection hv with _ e2 e3; rw [e3, ← HL.out]; exact hnc
    clear hpre hi0
    go_wp2
    go_loopw [5, 6] (fun iv jv wr => ∃ (i j : Nat) (l1 : List Bs), iv = .int .i64 i ∧ jv = .int .i64 j ∧ i < j ∧ j ≤ n ∧ Hid (OwT wr 0 tId (slV g n cap) l1) ∧ Hid (w.grownBy wr (some g)) ∧ Hid (l1.take i = (l.take j).filter (has D)) ∧ Hid (∀ k, j ≤ k → at_ l1 k = at_ l k)) (fun _ jv _ => n - (intOf jv).toNat)
    case atStart => exact ⟨i, i + 1, l, rfl, by go_num, by omega, by omega, by show Hid _; exact HO1, by show Hid _; exact HW1, by show Hid _; exact HT0, by show Hid _; exact hide (fun _ _ => rfl)⟩
    case round =>
      clear HT0 HO1 HW1 hne
      obtain ⟨i, j, l1, rfl, rfl, hij, hj, HO, HW, HT, HA⟩ := hrel
      have hln := own_len HO.out
      by_cases hlt : j < n
      · obtain ⟨c1, _⟩ := rdy_cell HO.out (k := j) (by omega)
        change wr.cell? ⟨g, j, none⟩ = some (encStr (at_ l1 j)) at c1
        have hxl : at_ l1 j = at_ l j := HA.out j (Nat.le_refl _)
        rw [hxl] at c1
        have hxi : at_ l j ∈ l := by unfold at_; rw [List.getD_eq_getElem?_getD, List.getElem?_eq_getElem (by rw [HL.out]; exact hlt)]; exact List.getElem_mem _
        have HCx := hide (HH.out wr HW.out (at_ l j) (HS.out _ hxi))
        have HTk := hide (show l.take (j + 1) = l.take j ++ [at_ l j] from by
          rw [List.take_add_one, List.getElem?_eq_getElem (by rw [HL.out]; exact hlt)]
          unfold at_
          rw [List.getD_eq_getElem?_getD, List.getElem?_eq_getElem (by rw [HL.out]; exact hlt)]; rfl)
        obtain ⟨x, hx⟩ : ∃ x, x = at_ l j := ⟨_, rfl⟩
        rw [← hx] at c1 HCx HTk
        have HLn := hide hln
        clear hx hxi hxl hln
        go_wp2_with fail
        refine HCx.out.mono ?_
        rintro y w2 ⟨rfl, hb2⟩
        have HW2 := hide (grown_below HW.out hb2.out)
        have HO2 := hide (HO.out.kept hb2.out)
        clear hb2 HCx c1
        cases hh : has D x with
        | true =>
          have HO3 := hide (OwT.set HO2.out i x)
          have HW3 := hide (grown_put (i := i) HW2.out (encStr x))
          have HT3 := hide (show (l1.set i x).take (i + 1) = (l.take (j + 1)).filter (has D) from by
            rw [HTk.out, List.filter_append, ← HT.out, List.filter_cons, if_pos hh, List.filter_nil, List.take_add_one, List.getElem?_set, if_pos rfl, if_pos (by have := HLn.out; omega), List.take_set_of_le (Nat.le_refl _)]; rfl)
          have HA3 := hide (show ∀ k, j + 1 ≤ k → at_ (l1.set i x) k = at_ l k from fun k hk => by
            rw [← HA.out k (by omega)]
            unfold at_
            rw [List.getD_eq_getElem?_getD, List.getElem?_set, if_neg (by omega), ← List.getD_eq_getElem?_getD])
          obtain ⟨ci, fi⟩ := rdy_cell HO2.out (k := i) (by have := HLn.out; omega)
          have hin2 : i < n := by omega
          clear hh
          go_wp2
          exact ⟨⟨i + 1, j + 1, l1.set i x, by go_num, by go_num, by omega, by omega, by show Hid _; exact HO3, by show Hid _; exact HW3, by show Hid _; exact HT3, by show Hid _; exact HA3⟩, by simp [intOf]; omega⟩
        | false =>
          have HT3 := hide (show l1.take i = (l.take (j + 1)).filter (has D) from by
            rw [HTk.out, List.filter_append, ← HT.out, List.filter_cons, if_neg (by rw [hh]; decide), List.filter_nil, List.append_nil])
          have HA3 := hide (show ∀ k, j + 1 ≤ k → at_ l1 k = at_ l k from fun k hk => HA.out k (by omega))
          clear hh
          go_wp2
          exact ⟨⟨i, j + 1, l1, rfl, by go_num, by omega, by omega, by show Hid _; exact HO2, by show Hid _; exact HW2, by show Hid _; exact HT3, by show Hid _; exact HA3⟩, by simp [intOf]; omega⟩
      · obtain rfl : j = n := by omega
        have hcells : ∀ k, k < j → (wr.cell? ⟨g, k, none⟩).isSome = true ∧ wr.frozen? ⟨g, k, none⟩ = false := fun k hk => by
          obtain ⟨q1, q2⟩ := rdy_cell HO.out (k := k) (by omega)
          exact ⟨by rw [q1]; rfl, q2⟩
        have hcl : ∀ ty, (Builtin.clear_ #[31] ty #[.slice (some ⟨g, i, none⟩) (j - i) (cap - i)]).run Try.prog wr = .ok (.tuple #[]) (wr.setCells g i (List.replicate (j - i) (.string ⟨#[]⟩))) := fun ty =>
          Lib.run_clear_slice wr 31 tId ty (.string ⟨#[]⟩) Try.underlying31 zeroS rfl rfl g i (j - i) (cap - i) (by omega) (fun k hk => (hcells (i + k) (by omega)).1) (fun k hk => (hcells (i + k) (by omega)).2)
        have hlt' : (l1.take i).length = i := by rw [List.length_take]; omega
        have hOc : OwT (wr.setCells g i (List.replicate (j - i) (.string ⟨#[]⟩))) 0 tId (slV g i cap) (l.filter (has D)) := by
          have h1 := own_pasts (List.replicate (j - i) (.string ⟨#[]⟩)) i wr (m := i) (cap := cap) (g := g) (l := l1.take i) (by
            have h2 := OwT.cut (m := i) (l := l1) (g := g) (cap := cap) (by rw [hln]; exact HO.out) (by omega)
            rwa [hlt'] at h2) (Nat.le_refl _)
          rw [HT.out] at h1
          rwa [show l.take j = l from by rw [← HL.out, List.take_length]] at h1
        have hWc : w.grownBy (wr.setCells g i (List.replicate (j - i) (.string ⟨#[]⟩))) (some g) := grown_cells HW.out _ _
        obtain ⟨wc, hwc⟩ : ∃ z, z = wr.setCells g i (List.replicate (j - i) (.string ⟨#[]⟩)) := ⟨_, rfl⟩
        rw [← hwc] at hcl hOc hWc
        have HOc := hide hOc
        have HWc := hide hWc
        clear hcells hlt' hOc hWc hwc hln
        go_wp2
        go_ret
        exact ⟨i, rfl, HOc.out, HWc.out⟩
end Go.Proofs.Ytplmcpdlommmaaa.Oq
