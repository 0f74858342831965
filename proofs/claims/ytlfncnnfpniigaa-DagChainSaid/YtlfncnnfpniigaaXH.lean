/-
  container/heap over the ids that may come in: what goes up, and down.
-/
import Derived.Test.YtlfncnnfpniigaaXG
namespace Go.Proofs.Ytlfncnnfpniigaa.Dq
open Go Go.RowKit Kt Kg Lw Tr

theorem enLess : ∀ args w, (callFunc 96 args).run Try.prog w = .ok (.enter 96 args) w := enters_of Try.func96 (by kernel_rfl) rfl
theorem enSwap : ∀ args w, (callFunc 97 args).run Try.prog w = .ok (.enter 97 args) w := enters_of Try.func97 (by kernel_rfl) rfl
theorem enLen : ∀ args w, (callFunc 95 args).run Try.prog w = .ok (.enter 95 args) w := enters_of Try.func95 (by kernel_rfl) rfl
theorem enPush : ∀ args w, (callFunc 99 args).run Try.prog w = .ok (.enter 99 args) w := enters_of Try.func99 (by kernel_rfl) rfl
theorem enPop : ∀ args w, (callFunc 98 args).run Try.prog w = .ok (.enter 98 args) w := enters_of Try.func98 (by kernel_rfl) rfl
set_option maxRecDepth 100000 in
set_option maxHeartbeats 1000000 in
theorem up_any {w : World} {S : Nat → Prop} {q j0 : Nat} {l : List Bs} (h : HpIn w S q l) (hu : UpAt l j0) (hj : j0 < l.length) (hl : l.length ≤ 1000) :
    Calls Try.prog 67 #[.iface 76 (pt q), .int .i64 j0] w fun y w' => y = .returned (.tuple #[]) ∧ ∃ l', HpIn w' S q l' ∧ l'.Perm l ∧ Hp l' l'.length ∧ Oth S w w' := by
  have H := hide h
  have HU := hide hu
  clear h hu
  obtain ⟨N, hN⟩ : ∃ N, N = l.length := ⟨_, rfl⟩
  rw [← hN] at hj hl
  have HN := hide hN
  clear hN
  go_enter Try.func67, Try.ntmps67
  go_wp2
  go_loopw [1] (fun vj wr => ∃ (j : Nat) (l' : List Bs), vj = .int .i64 j ∧ j < N ∧ Hid (HpIn wr S q l' ∧ l'.Perm l ∧ UpAt l' j ∧ Oth S w wr)) (fun vj _ => (intOf vj).toNat)
  case atStart => exact ⟨j0, l, rfl, hj, hide ⟨H.out, List.Perm.refl _, HU.out, Oth.refl _ _⟩⟩
  case round =>
    obtain ⟨j, l', rfl, hjN, HR⟩ := hrel
    obtain ⟨A, c, hcell, _, hown, hrow, hS, hne⟩ := HR.out.1.cell
    have hlen : l'.length = N := by rw [HR.out.2.1.length_eq, HN.out]
    by_cases hj0 : j = 0
    · subst hj0
      clear hown hrow hS hne hlen hcell
      go_wp2
      go_end0
      exact ⟨rfl, l', HR.out.1, HR.out.2.1, HR.out.2.2.1.root, HR.out.2.2.2⟩
    · obtain ⟨g, rfl⟩ := hne (fun e => by rw [e] at hlen; simp at hlen; omega)
      obtain ⟨p, hp⟩ : ∃ p, p = par j := ⟨_, rfl⟩
      have hp' : p = (j - 1) / 2 := hp
      have hpj : p < j := by omega
      have hdiv : ((j : Int) - 1) / 2 = ((p : Nat) : Int) := by omega
      have hne : ¬ ((p : Nat) : Int) = ((j : Nat) : Int) := by omega
      have mL := meth_val mrow_less hcell 229
      have eL := enLess
      have HL := hide (hpless_any hown j p (by omega) (by omega) (by omega))
      rw [hlen] at HL mL hcell
      have Hp := hide hp
      have Hlen := hide hlen
      clear hp hp' hlen
      cases hlv : lt (l'.getD j []) (l'.getD p []) with
      | true =>
        rw [hlv] at HL
        have Hlv := hide hlv
        have mS := fun n => meth_val mrow_swap (w := wr.drewN n) (q := q) hcell 229
        have eS := enSwap
        have HS := hide (fun n => hpswap_any (w := wr.drewN n) (l := l') (g := g) (cap := c) (B := 0) hown p j (by have := Hlen.out; omega) (by have := Hlen.out; omega) (by have := Hlen.out; omega))
        rw [Hlen.out] at HS
        have Hrow := hide hrow
        have HSb := hide hS
        clear hown hrow hS hlv
        go_wp2_with (first
          | (go_at_fn 96; refine HL.out.mono ?_; rintro y w1 ⟨rfl, nq, rfl⟩)
          | (go_at_fn 97; refine (HS.out _).mono ?_; rintro y w1 ⟨rfl, ho, hg⟩))
        have hn := HR.out.1.drewN nq
        have hrow' := Hrow.out
        rw [Hlen.out] at hrow'
        have h2 := hn.turn hrow' (HSb.out g rfl) ho hg
        have hj : j < l'.length := by have := Hlen.out; omega
        have h3 : (swp l' p j).Perm l' := swp_perm (by omega) hj
        have h4 : UpAt (swp l' p j) p := by
          have := HR.out.2.2.1.step (by omega) hj (by rw [← Hp.out]; exact Hlv.out)
          rwa [← Hp.out] at this
        have h5 : Oth S w w1 := (HR.out.2.2.2.drewN nq).trans (Oth.of_grown (S := S) hg fun g' e => by injection e with e; rw [← e]; exact (HSb.out g rfl).1) fun _ _ h => h
        exact ⟨⟨p, swp l' p j, rfl, by omega, hide ⟨h2, h3.trans HR.out.2.1, h4, h5⟩⟩, by simp [intOf]; omega⟩
      | false =>
        rw [hlv] at HL
        have Hlv := hide hlv
        clear hown hrow hS hlv
        go_wp2_with (go_at_fn 96; refine HL.out.mono ?_; rintro y w1 ⟨rfl, nq, rfl⟩)
        go_end0
        have hs := HR.out.2.2.1.stop (by rw [← Hp.out]; exact Hlv.out)
        exact ⟨rfl, l', HR.out.1.drewN _, HR.out.2.1, hs, HR.out.2.2.2.drewN _⟩
/-- what down leaves -/
def DownPost (w : World) (S : Nat → Prop) (q n : Nat) (l : List Bs) (y : Ending) (w' : World) : Prop :=
  (∃ b, y = .returned (.bool b)) ∧ ∃ l', HpIn w' S q l' ∧ l'.Perm l ∧ Hp l' n ∧ l'.getD n [] = l.getD n [] ∧ Oth S w w'
theorem drewN_two (w : World) (a b : Nat) : (w.drewN a).drewN b = w.drewN (a + b) := by simp [World.drewN, Nat.add_assoc]
set_option maxRecDepth 100000 in
set_option maxHeartbeats 1000000 in
theorem down_any {w : World} {S : Nat → Prop} {q n : Nat} {l : List Bs} (h : HpIn w S q l) (hu : DownAt l 0 n) (hn : n < l.length) (hl : l.length ≤ 1000) :
    Calls Try.prog 68 #[.iface 76 (pt q), .int .i64 0, .int .i64 n] w (DownPost w S q n l) := by
  have H := hide h
  have HU := hide hu
  clear h hu
  obtain ⟨N, hN⟩ : ∃ N, N = l.length := ⟨_, rfl⟩
  rw [← hN] at hn hl
  have HN := hide hN
  clear hN
  go_enter Try.func68, Try.ntmps68
  go_wp2
  go_loopw [7] (fun vi wr => ∃ (i : Nat) (l' : List Bs), vi = .int .i64 i ∧ i ≤ n ∧ Hid (HpIn wr S q l' ∧ l'.Perm l ∧ DownAt l' i n ∧ l'.getD n [] = l.getD n [] ∧ Oth S w wr)) (fun vi _ => n - (intOf vi).toNat)
  case atStart => exact ⟨0, l, rfl, Nat.zero_le _, hide ⟨H.out, List.Perm.refl _, HU.out, rfl, Oth.refl _ _⟩⟩
  case round =>
    obtain ⟨i, l', rfl, hiN, HR⟩ := hrel
    obtain ⟨A, c, hcell, _, hown, hrow, hS, hne⟩ := HR.out.1.cell
    have hlen : l'.length = N := by rw [HR.out.2.1.length_eq, HN.out]
    obtain ⟨g, rfl⟩ := hne (fun e => by rw [e] at hlen; simp at hlen; omega)
    obtain ⟨j1, hj1⟩ : ∃ j1, j1 = 2 * i + 1 := ⟨_, rfl⟩
    obtain ⟨j2, hj2⟩ : ∃ j2, j2 = 2 * i + 2 := ⟨_, rfl⟩
    have e1 : 2 * ((i : Nat) : Int) + 1 = ((j1 : Nat) : Int) := by omega
    have e2 : ((j1 : Nat) : Int) + 1 = ((j2 : Nat) : Int) := by omega
    have HJ1 := hide hj1
    have HJ2 := hide hj2
    have Hlen := hide hlen
    have Hrow := hide hrow
    have HSb := hide hS
    have HO := hide hown
    by_cases ha : n ≤ j1
    · clear hown hrow hS hlen hcell hne hj1 hj2
      have HA := hide ha
      have hge : ¬ ((j1 : Nat) : Int) < ((n : Nat) : Int) := by omega
      have hge2 : ((n : Nat) : Int) ≤ ((j1 : Nat) : Int) := by omega
      clear ha
      go_wp2
      go_ret
      exact ⟨⟨_, rfl⟩, l', HR.out.1, HR.out.2.1, HR.out.2.2.1.none (by have := HJ1.out; have := HA.out; omega), HR.out.2.2.2.1, HR.out.2.2.2.2⟩
    · have hlt1 : j1 < n := by omega
      clear ha
      have mL0 := meth_val mrow_less hcell 229
      have mL1 := fun k => meth_val mrow_less (w := wr.drewN k) (q := q) hcell 229
      have mS := fun k => meth_val mrow_swap (w := wr.drewN k) (q := q) hcell 229
      have mS2 := fun k k2 => meth_val mrow_swap (w := (wr.drewN k).drewN k2) (q := q) hcell 229
      have eL := enLess
      have eS := enSwap
      rw [hlen] at mL0 mL1 mS mS2
      -- how a round goes on, when the lesser one below is known
      have HGo := hide (show ∀ (j : Nat) (wz : World) (k : Nat), wz = wr.drewN k → Lesser l' i j n → lt (l'.getD j []) (l'.getD i []) = true → ∀ w1, OwT w1 0 tId (.slice (some ⟨g, 0, none⟩) N c) (swp l' i j) → wz.grownBy w1 (some g) →
          HpIn w1 S q (swp l' i j) ∧ (swp l' i j).Perm l ∧ DownAt (swp l' i j) j n ∧ (swp l' i j).getD n [] = l.getD n [] ∧ Oth S w w1 from by
        intro j wz k hwz hls hlv w1 ho hg
        subst hwz
        have hjn := hls.lt
        have h3 : (swp l' i j).Perm l' := swp_perm (by omega) (by omega)
        refine ⟨(HR.out.1.drewN k).turn (by rw [hlen] at hrow; exact hrow) (HSb.out g rfl) ho hg, h3.trans HR.out.2.1, HR.out.2.2.1.step hls (by omega) hlv, ?_, (HR.out.2.2.2.2.drewN k).trans (Oth.of_grown (S := S) hg fun g' e => by injection e with e; rw [← e]; exact (HSb.out g rfl).1) fun _ _ h => h⟩
        have hij : i < n := by have h8 : (j - 1) / 2 = i := hls.par; have := hls.pos; omega
        rw [swp_at (by omega) (by omega), if_neg (by omega), if_neg (by omega)]
        exact HR.out.2.2.2.1)
      have HEnd := hide (show ∀ (j : Nat) (k : Nat), Lesser l' i j n → lt (l'.getD j []) (l'.getD i []) = false →
          HpIn (wr.drewN k) S q l' ∧ l'.Perm l ∧ Hp l' n ∧ l'.getD n [] = l.getD n [] ∧ Oth S w (wr.drewN k) from
        fun j k hls hlv => ⟨HR.out.1.drewN k, HR.out.2.1, HR.out.2.2.1.stop hls hlv, HR.out.2.2.2.1, HR.out.2.2.2.2.drewN k⟩)
      have HLs := hide (show ∀ (a b : Nat) (wz : World) (k : Nat), wz = wr.drewN k → a < n → b < n → Calls Try.prog 96 #[.slice (some ⟨g, 0, none⟩) N c, .int .i64 a, .int .i64 b] wz fun y w' => y = .returned (.bool (lt (l'.getD a []) (l'.getD b []))) ∧ ∃ k2, w' = wz.drewN k2 from by
        intro a b wz k hwz ha hb
        subst hwz
        have := hpless_any (w := wr.drewN k) hown a b (by omega) (by omega) (by omega)
        rwa [hlen] at this)
      have HSw := hide (show ∀ (a b : Nat) (wz : World) (k : Nat), wz = wr.drewN k → a < n → b < n → Calls Try.prog 97 #[.slice (some ⟨g, 0, none⟩) N c, .int .i64 a, .int .i64 b] wz fun y w' => y = .returned (.tuple #[]) ∧ OwT w' 0 tId (.slice (some ⟨g, 0, none⟩) N c) (swp l' a b) ∧ wz.grownBy w' (some g) from by
        intro a b wz k hwz ha hb
        subst hwz
        have := hpswap_any (w := wr.drewN k) (l := l') (g := g) (cap := c) (B := 0) hown a b (by omega) (by omega) (by omega)
        rwa [hlen] at this)
      have hii : i < n := by omega
      clear hown hrow hS hlen hcell hne hj1 hj2 HR HO Hrow HSb
      by_cases hb2 : j2 < n
      · have HLa := hide (HLs.out j2 j1 wr 0 rfl hb2 hlt1)
        have hlt2 : ((j2 : Nat) : Int) < ((n : Nat) : Int) := by omega
        cases hv2 : lt (l'.getD j2 []) (l'.getD j1 []) with
        | true =>
          rw [hv2] at HLa
          have HLess := hide (show Lesser l' i j2 n from by rw [HJ2.out]; exact lesser_right (by have := HJ2.out; omega) (by rw [← HJ2.out, ← HJ1.out]; exact hv2))
          cases hlv : lt (l'.getD j2 []) (l'.getD i []) with
          | true =>
            have Hlv := hide hlv
            have HLb := hide (fun k1 => HLs.out j2 i (wr.drewN k1) k1 rfl (by omega) hii)
            have HSb := hide (fun k1 => HSw.out i j2 (wr.drewN k1) k1 rfl hii (by omega))
            rw [hlv] at HLb
            clear hlv
            go_wp2_with (first
              | (go_at_fn 96; refine HLa.out.mono ?_; clear HLa; rintro y w1 ⟨rfl, k1, rfl⟩)
              | (go_at_fn 96; refine (HLb.out _).mono ?_; rintro y w1 ⟨rfl, k2, rfl⟩)
              | (go_at_fn 97; refine (HSb.out _).mono ?_; rintro y w2 ⟨rfl, ho, hg⟩))
            exact ⟨⟨j2, swp l' i j2, rfl, by omega, hide (HGo.out j2 _ (k1 + k2) rfl HLess.out Hlv.out _ ho hg)⟩, by simp [intOf]; have := HJ1.out; have := HJ2.out; omega⟩
          | false =>
            have Hlv := hide hlv
            have HLb := hide (fun k1 => HLs.out j2 i (wr.drewN k1) k1 rfl (by omega) hii)
            rw [hlv] at HLb
            clear hlv
            go_wp2_with (first
              | (go_at_fn 96; refine HLa.out.mono ?_; clear HLa; rintro y w1 ⟨rfl, k1, rfl⟩)
              | (go_at_fn 96; refine (HLb.out _).mono ?_; rintro y w1 ⟨rfl, k2, rfl⟩))
            go_ret
            exact ⟨⟨_, rfl⟩, l', HEnd.out j2 _ HLess.out Hlv.out⟩
        | false =>
          rw [hv2] at HLa
          have HLess := hide (show Lesser l' i j1 n from by rw [HJ1.out]; exact lesser_left (by have := HJ1.out; omega) (fun _ => by rw [← HJ2.out, ← HJ1.out]; exact hv2))
          cases hlv : lt (l'.getD j1 []) (l'.getD i []) with
          | true =>
            have Hlv := hide hlv
            have HLb := hide (fun k1 => HLs.out j1 i (wr.drewN k1) k1 rfl (by omega) hii)
            have HSb := hide (fun k1 => HSw.out i j1 (wr.drewN k1) k1 rfl hii (by omega))
            rw [hlv] at HLb
            clear hlv
            go_wp2_with (first
              | (go_at_fn 96; refine HLa.out.mono ?_; clear HLa; rintro y w1 ⟨rfl, k1, rfl⟩)
              | (go_at_fn 96; refine (HLb.out _).mono ?_; rintro y w1 ⟨rfl, k2, rfl⟩)
              | (go_at_fn 97; refine (HSb.out _).mono ?_; rintro y w2 ⟨rfl, ho, hg⟩))
            exact ⟨⟨j1, swp l' i j1, rfl, by omega, hide (HGo.out j1 _ (k1 + k2) rfl HLess.out Hlv.out _ ho hg)⟩, by simp [intOf]; have := HJ1.out; have := HJ2.out; omega⟩
          | false =>
            have Hlv := hide hlv
            have HLb := hide (fun k1 => HLs.out j1 i (wr.drewN k1) k1 rfl (by omega) hii)
            rw [hlv] at HLb
            clear hlv
            go_wp2_with (first
              | (go_at_fn 96; refine HLa.out.mono ?_; clear HLa; rintro y w1 ⟨rfl, k1, rfl⟩)
              | (go_at_fn 96; refine (HLb.out _).mono ?_; rintro y w1 ⟨rfl, k2, rfl⟩))
            go_ret
            exact ⟨⟨_, rfl⟩, l', HEnd.out j1 _ HLess.out Hlv.out⟩
      · have hge2 : ¬ ((j2 : Nat) : Int) < ((n : Nat) : Int) := by omega
        have HLess := hide (show Lesser l' i j1 n from by rw [HJ1.out]; exact lesser_left (by have := HJ1.out; omega) (fun h => absurd h (by have := HJ2.out; omega)))
        cases hlv : lt (l'.getD j1 []) (l'.getD i []) with
        | true =>
          have Hlv := hide hlv
          have HLb := hide (HLs.out j1 i wr 0 rfl (by omega) hii)
          have HSb := hide (fun k => HSw.out i j1 (wr.drewN k) k rfl hii (by omega))
          rw [hlv] at HLb
          clear hlv
          go_wp2_with (first
            | (go_at_fn 96; refine (HLb.out).mono ?_; rintro y w1 ⟨rfl, k2, rfl⟩)
            | (go_at_fn 97; refine (HSb.out _).mono ?_; rintro y w2 ⟨rfl, ho, hg⟩))
          exact ⟨⟨j1, swp l' i j1, rfl, by omega, hide (HGo.out j1 _ k2 rfl HLess.out Hlv.out _ ho hg)⟩, by simp [intOf]; have := HJ1.out; have := HJ2.out; omega⟩
        | false =>
          have Hlv := hide hlv
          have HLb := hide (HLs.out j1 i wr 0 rfl (by omega) hii)
          rw [hlv] at HLb
          clear hlv
          go_wp2_with (first
            | (go_at_fn 96; refine (HLb.out).mono ?_; rintro y w1 ⟨rfl, k2, rfl⟩))
          go_ret
          exact ⟨⟨_, rfl⟩, l', HEnd.out j1 _ HLess.out Hlv.out⟩
end Go.Proofs.Ytlfncnnfpniigaa.Dq
