/-
  container/heap over the ids that may come in: what goes up, and down.
-/
import Derived.Test.YtplmcpdlommmaaaQXB
import Derived.Test.YtplmcpdlommmaaaQReg
import Derived.Test.YtplmcpdlommmaaaXF
namespace Go.Proofs.Ytplmcpdlommmaaa.Dq
open Go Go.RowKit Kt Kg Lw Tr

theorem enLess : ∀ args w, (callFunc 132 args).run Try.prog w = .ok (.enter 132 args) w := enters_of Try.func132 (by kernel_rfl) rfl
theorem enSwap : ∀ args w, (callFunc 133 args).run Try.prog w = .ok (.enter 133 args) w := enters_of Try.func133 (by kernel_rfl) rfl
theorem enLen : ∀ args w, (callFunc 131 args).run Try.prog w = .ok (.enter 131 args) w := enters_of Try.func131 (by kernel_rfl) rfl
theorem enPush : ∀ args w, (callFunc 135 args).run Try.prog w = .ok (.enter 135 args) w := enters_of Try.func135 (by kernel_rfl) rfl
theorem enPop : ∀ args w, (callFunc 134 args).run Try.prog w = .ok (.enter 134 args) w := enters_of Try.func134 (by kernel_rfl) rfl
set_option maxRecDepth 100000 in
set_option maxHeartbeats 1000000 in
theorem up_any {w : World} {S : Nat → Prop} {q j0 : Nat} {l : List Bs} (h : HpIn w S q l) (hu : UpAt l j0) (hj : j0 < l.length) (hl : l.length ≤ 1000) :
    Calls Try.prog 91 #[.iface 96 (pt q), .int .i64 j0] w fun y w' => y = .returned (.tuple #[]) ∧ ∃ l', HpIn w' S q l' ∧ l'.Perm l ∧ Hp l' l'.length ∧ Oth S w w' := by
  have H := hide h
  have HU := hide hu
  clear h hu
  obtain ⟨N, hN⟩ : ∃ N, N = l.length := ⟨_, rfl⟩
  rw [← hN] at hj hl
  have HN := hide hN
  clear hN
  go_enter Try.func91, Try.ntmps91
  go_wp2
  go_loopw [1] (fun vj wr => ∃ (j : Nat) (l' : List Bs), vj = .int .i64 j ∧ j < N ∧ Hid (HpIn wr S q l' ∧ l'.Perm l ∧ UpAt l' j ∧ Oth S w wr)) (fun vj _ => (intOf vj).toNat)
  case atStart => exact ⟨j0, l, rfl, hj, hide ⟨H.out, List.Perm.refl _, HU.out, Oth.refl _ _⟩⟩
  case round =>
    obtain ⟨j, l', rfl, hjN, HR⟩ := hrel
    obtain ⟨A, c, hcell, _, hown, hrow, hS, hne⟩ := HR.out.1.cell
    have hlen : l'.length = N := by rw [HR.out.2.1.length_eq, HN.out]
    by_cases hj0 : j = 0
    · subst hj0
      clear hown hrow hS hne hlen hcell
      go_wp2
      go_end0
      exact ⟨rfl, l', HR.out.1, HR.out.2.1, HR.out.2.2.1.root, HR.out.2.2.2⟩
    · obtain ⟨g, rfl⟩ := hne (fun e => by rw [e] at hlen; simp at hlen; omega)
      obtain ⟨p, hp⟩ : ∃ p, p = par j := ⟨_, rfl⟩
      have hp' : p = (j - 1) / 2 := hp
      have hpj : p < j := by omega
      have hdiv : ((j : Int) - 1) / 2 = ((p : Nat) : Int) := by omega
      have hne : ¬ ((p : Nat) : Int) = ((j : Nat) : Int) := by omega
      have mL := meth_val mrow_less hcell 259
      have eL := enLess
      have HL := hide (hpless_any hown j p (by omega) (by omega) (by omega))
      rw [hlen] at HL mL hcell
      have Hp := hide hp
      have Hlen := hide hlen
      clear hp hp' hlen
      cases hlv : lt (l'.getD j []) (l'.getD p []) with
      | true =>
        rw [hlv] at HL
        have Hlv := hide hlv
        have mS := fun n => meth_val mrow_swap (w := wr.drewN n) (q := q) hcell 259
        have eS := enSwap
        have HS := hide (fun n => hpswap_any (w := wr.drewN n) (l := l') (g := g) (cap := c) (B := 0) hown p j (by have := Hlen.out; omega) (by have := Hlen.out; omega) (by have := Hlen.out; omega))
        rw [Hlen.out] at HS
        have Hrow := hide hrow
        have HSb := hide hS
        clear hown hrow hS hlv
        go_wp2_with (first
          | (go_at_fn 132; refine HL.out.mono ?_; rintro y w1 ⟨rfl, nq, rfl⟩)
          | (go_at_fn 133; refine (HS.out _).mono ?_; rintro y w1 ⟨rfl, ho, hg⟩))
        have hn := HR.out.1.drewN nq
        have hrow' := Hrow.out
        rw [Hlen.out] at hrow'
        have h2 := hn.turn hrow' (HSb.out g rfl) ho hg
        have hj : j < l'.length := by have := Hlen.out; omega
        have h3 : (swp l' p j).Perm l' := swp_perm (by omega) hj
        have h4 : UpAt (swp l' p j) p := by
          have := HR.out.2.2.1.step (by omega) hj (by rw [← Hp.out]; exact Hlv.out)
          rwa [← Hp.out] at this
        have h5 : Oth S w w1 := (HR.out.2.2.2.drewN nq).trans (Oth.of_grown (S := S) hg fun g' e => by injection e with e; rw [← e]; exact (HSb.out g rfl).1) fun _ _ h => h
        exact ⟨⟨p, swp l' p j, rfl, by omega, hide ⟨h2, h3.trans HR.out.2.1, h4, h5⟩⟩, by simp [intOf]; omega⟩
      | false =>
        rw [hlv] at HL
        have Hlv := hide hlv
        clear hown hrow hS hlv
        go_wp2_with (go_at_fn 132; refine HL.out.mono ?_; rintro y w1 ⟨rfl, nq, rfl⟩)
        go_end0
        have hs := HR.out.2.2.1.stop (by rw [← Hp.out]; exact Hlv.out)
        exact ⟨rfl, l', HR.out.1.drewN _, HR.out.2.1, hs, HR.out.2.2.2.drewN _⟩
/-- what down leaves -/
def DownPost (w : World) (S : Nat → Prop) (q n : Nat) (l : List Bs) (y : Ending) (w' : World) : Prop :=
  (∃ b, y = .returned (.bool b)) ∧ ∃ l', HpIn w' S q l' ∧ l'.Perm l ∧ Hp l' n ∧ l'.getD n [] = l.getD n [] ∧ Oth S w w'
theorem drewN_two (w : World) (a b : Nat) : (w.drewN a).drewN b = w.drewN (a + b) := by simp [World.drewN, Nat.add_assoc]
set_option maxRecDepth 100000 in
set_option maxHeartbeats 1000000 in
theorem down_any {w : World} {S : Nat → Prop} {q n : Nat} {l : List Bs} (h : HpIn w S q l) (hu : DownAt l 0 n) (hn : n < l.length) (hl : l.length ≤ 1000) :
    Calls Try.prog 92 #[.iface 96 (pt q), .int .i64 0, .int .i64 n] w (DownPost w S q n l) := by
  have H := hide h
  have HU := hide hu
  clear h hu
  obtain ⟨N, hN⟩ : ∃ N, N = l.length := ⟨_, rfl⟩
  rw [← hN] at hn hl
  have HN := hide hN
  clear hN
  go_enter Try.func92, Try.ntmps92
  go_wp2
  go_loopw [7] (fun vi wr => ∃ (i : Nat) (l' : List Bs), vi = .int .i64 i ∧ i ≤ n ∧ Hid (HpIn wr S q l' ∧ l'.Perm l ∧ DownAt l' i n ∧ l'.getD n [] = l.getD n [] ∧ Oth S w wr)) (fun vi _ => n - (intOf vi).toNat)
  case atStart => exact ⟨0, l, rfl, Nat.zero_le _, hide ⟨H.out, List.Perm.refl _, HU.out, rfl, Oth.refl _ _⟩⟩
  case round =>
    obtain ⟨i, l', rfl, hiN, HR⟩ := hrel
    obtain ⟨A, c, hcell, _, hown, hrow, hS, hne⟩ := HR.out.1.cell
    have hlen : l'.length = N := by rw [HR.out.2.1.length_eq, HN.out]
    obtain ⟨g, rfl⟩ := hne (fun e => by rw [e] at hlen; simp at hlen; omega)
    obtain ⟨j1, hj1⟩ : ∃ j1, j1 = 2 * i + 1 := ⟨_, rfl⟩
    obtain ⟨j2, hj2⟩ : ∃ j2, j2 = 2 * i + 2 := ⟨_, rfl⟩
    have e1 : 2 * ((i : Nat) : Int) + 1 = ((j1 : Nat) : Int) := by omega
    have e2 : ((j1 : Nat) : Int) + 1 = ((j2 : Nat) : Int) := by omega
    have HJ1 := hide hj1
    have HJ2 := hide hj2
    have Hlen := hide hlen
    have Hrow := hide hrow
    have HSb := hide hS
    have HO := hide hown
    by_cases ha : n ≤ j1
    · clear hown hrow hS hlen hcell hne hj1 hj2
      have HA := hide ha
      have hge : ¬ ((j1 : Nat) : Int) < ((n : Nat) : Int) := by omega
      have hge2 : ((n : Nat) : Int) ≤ ((j1 : Nat) : Int) := by omega
      clear ha
      go_wp2
      go_ret
      exact ⟨⟨_, rfl⟩, l', HR.out.1, HR.out.2.1, HR.out.2.2.1.none (by have := HJ1.out; have := HA.out; omega), HR.out.2.2.2.1, HR.out.2.2.2.2⟩
    · have hlt1 : j1 < n := by omega
      clear ha
      have mL0 := meth_val mrow_less hcell 259
      have mL1 := fun k => meth_val mrow_less (w := wr.drewN k) (q := q) hcell 259
      have mS := fun k => meth_val mrow_swap (w := wr.drewN k) (q := q) hcell 259
      have mS2 := fun k k2 => meth_val mrow_swap (w := (wr.drewN k).drewN k2) (q := q) hcell 259
      have eL := enLess
      have eS := enSwap
      rw [hlen] at mL0 mL1 mS mS2
      -- how a round goes on, when the lesser one below is known
      have HGo := hide (show ∀ (j : Nat) (wz : World) (k : Nat), wz = wr.drewN k → Lesser l' i j n → lt (l'.getD j []) (l'.getD i []) = true → ∀ w1, OwT w1 0 tId (.slice (some ⟨g, 0, none⟩) N c) (swp l' i j) → wz.grownBy w1 (some g) →
          HpIn w1 S q (swp l' i j) ∧ (swp l' i j).Perm l ∧ DownAt (swp l' i j) j n ∧ (swp l' i j).getD n [] = l.getD n [] ∧ Oth S w w1 from by
        intro j wz k hwz hls hlv w1 ho hg
        subst hwz
        have hjn := hls.lt
        have h3 : (swp l' i j).Perm l' := swp_perm (by omega) (by omega)
        refine ⟨(HR.out.1.drewN k).turn (by rw [hlen] at hrow; exact hrow) (HSb.out g rfl) ho hg, h3.trans HR.out.2.1, HR.out.2.2.1.step hls (by omega) hlv, ?_, (HR.out.2.2.2.2.drewN k).trans (Oth.of_grown (S := S) hg fun g' e => by injection e with e; rw [← e]; exact (HSb.out g rfl).1) fun _ _ h => h⟩
        have hij : i < n := by have h8 : (j - 1) / 2 = i := hls.par; have := hls.pos; omega
        rw [swp_at (by omega) (by omega), if_neg (by omega), if_neg (by omega)]
        exact HR.out.2.2.2.1)
      have HEnd := hide (show ∀ (j : Nat) (k : Nat), Lesser l' i j n → lt (l'.getD j []) (l'.getD i []) = false →
          HpIn (wr.drewN k) S q l' ∧ l'.Perm l ∧ Hp l' n ∧ l'.getD n [] = l.getD n [] ∧ Oth S w (wr.drewN k) from
        fun j k hls hlv => ⟨HR.out.1.drewN k, HR.out.2.1, HR.out.2.2.1.stop hls hlv, HR.out.2.2.2.1, HR.out.2.2.2.2.drewN k⟩)
      have HLs := hide (show ∀ (a b : Nat) (wz : World) (k : Nat), wz = wr.drewN k → a < n → b < n → Calls Try.prog 132 #[.slice (some ⟨g, 0, none⟩) N c, .int .i64 a, .int .i64 b] wz fun y w' => y = .returned (.bool (lt (l'.getD a []) (l'.getD b []))) ∧ ∃ k2, w' = wz.drewN k2 from by
        intro a b wz k hwz ha hb
        subst hwz
        have := hpless_any (w := wr.drewN k) hown a b (by omega) (by omega) (by omega)
        rwa [hlen] at this)
      have HSw := hide (show ∀ (a b : Nat) (wz : World) (k : Nat), wz = wr.drewN k → a < n → b < n → Calls Try.prog 133 #[.slice (some ⟨g, 0, none⟩) N c, .int .i64 a, .int .i64 b] wz fun y w' => y = .returned (.tuple #[]) ∧ OwT w' 0 tId (.slice (some ⟨g, 0, none⟩) N c) (swp l' a b) ∧ wz.grownBy w' (some g) from by
        intro a b wz k hwz ha hb
        subst hwz
        have := hpswap_any (w := wr.drewN k) (l := l') (g := g) (cap := c) (B := 0) hown a b (by omega) (by omega) (by omega)
        rwa [hlen] at this)
      have hii : i < n := by omega
      clear hown hrow hS hlen hcell hne hj1 hj2 HR HO Hrow HSb
      by_cases hb2 : j2 < n
      · have HLa := hide (HLs.out j2 j1 wr 0 rfl hb2 hlt1)
        have hlt2 : ((j2 : Nat) : Int) < ((n : Nat) : Int) := by omega
        cases hv2 : lt (l'.getD j2 []) (l'.getD j1 []) with
        | true =>
          rw [hv2] at HLa
          have HLess := hide (show Lesser l' i j2 n from by rw [HJ2.out]; exact lesser_right (by have := HJ2.out; omega) (by rw [← HJ2.out, ← HJ1.out]; exact hv2))
          cases hlv : lt (l'.getD j2 []) (l'.getD i []) with
          | true =>
            have Hlv := hide hlv
            have HLb := hide (fun k1 => HLs.out j2 i (wr.drewN k1) k1 rfl (by omega) hii)
            have HSb := hide (fun k1 => HSw.out i j2 (wr.drewN k1) k1 rfl hii (by omega))
            rw [hlv] at HLb
            clear hlv
            go_wp2_with (first
              | (go_at_fn 132; refine HLa.out.mono ?_; clear HLa; rintro y w1 ⟨rfl, k1, rfl⟩)
              | (go_at_fn 132; refine (HLb.out _).mono ?_; rintro y w1 ⟨rfl, k2, rfl⟩)
              | (go_at_fn 133; refine (HSb.out _).mono ?_; rintro y w2 ⟨rfl, ho, hg⟩))
            exact ⟨⟨j2, swp l' i j2, rfl, by omega, hide (HGo.out j2 _ (k1 + k2) rfl HLess.out Hlv.out _ ho hg)⟩, by simp [intOf]; have := HJ1.out; have := HJ2.out; omega⟩
          | false =>
            have Hlv := hide hlv
            have HLb := hide (fun k1 => HLs.out j2 i (wr.drewN k1) k1 rfl (by omega) hii)
            rw [hlv] at HLb
            clear hlv
            go_wp2_with (first
              | (go_at_fn 132; refine HLa.out.mono ?_; clear HLa; rintro y w1 ⟨rfl, k1, rfl⟩)
              | (go_at_fn 132; refine (HLb.out _).mono ?_; rintro y w1 ⟨rfl, k2, rfl⟩))
            go_ret
            exact ⟨⟨_, rfl⟩, l', HEnd.out j2 _ HLess.out Hlv.out⟩
        | false =>
          rw [hv2] at HLa
          have HLess := hide (show Lesser l' i j1 n from by rw [HJ1.out]; exact lesser_left (by have := HJ1.out; omega) (fun _ => by rw [← HJ2.out, ← HJ1.out]; exact hv2))
          cases hlv : lt (l'.getD j1 []) (l'.getD i []) with
          | true =>
            have Hlv := hide hlv
            have HLb := hide (fun k1 => HLs.out j1 i (wr.drewN k1) k1 rfl (by omega) hii)
            have HSb := hide (fun k1 => HSw.out i j1 (wr.drewN k1) k1 rfl hii (by omega))
            rw [hlv] at HLb
            clear hlv
            go_wp2_with (first
              | (go_at_fn 132; refine HLa.out.mono ?_; clear HLa; rintro y w1 ⟨rfl, k1, rfl⟩)
              | (go_at_fn 132; refine (HLb.out _).mono ?_; rintro y w1 ⟨rfl, k2, rfl⟩)
              | (go_at_fn 133; refine (HSb.out _).mono ?_; rintro y w2 ⟨rfl, ho, hg⟩))
            exact ⟨⟨j1, swp l' i j1, rfl, by omega, hide (HGo.out j1 _ (k1 + k2) rfl HLess.out Hlv.out _ ho hg)⟩, by simp [intOf]; have := HJ1.out; have := HJ2.out; omega⟩
          | false =>
            have Hlv := hide hlv
            have HLb := hide (fun k1 => HLs.out j1 i (wr.drewN k1) k1 rfl (by omega) hii)
            rw [hlv] at HLb
            clear hlv
            go_wp2_with (first
              | (go_at_fn 132; refine HLa.out.mono ?_; clear HLa; rintro y w1 ⟨rfl, k1, rfl⟩)
              | (go_at_fn 132; refine (HLb.out _).mono ?_; rintro y w1 ⟨rfl, k2, rfl⟩))
            go_ret
            exact ⟨⟨_, rfl⟩, l', HEnd.out j1 _ HLess.out Hlv.out⟩
      · have hge2 : ¬ ((j2 : Nat) : Int) < ((n : Nat) : Int) := by omega
        have HLess := hide (show Lesser l' i j1 n from by rw [HJ1.out]; exact lesser_left (by have := HJ1.out; omega) (fun h => absurd h (by have := HJ2.out; omega)))
        cases hlv : lt (l'.getD j1 []) (l'.getD i []) with
        | true =>
          have Hlv := hide hlv
          have HLb := hide (HLs.out j1 i wr 0 rfl (by omega) hii)
          have HSb := hide (fun k => HSw.out i j1 (wr.drewN k) k rfl hii (by omega))
          rw [hlv] at HLb
          clear hlv
          go_wp2_with (first
            | (go_at_fn 132; refine (HLb.out).mono ?_; rintro y w1 ⟨rfl, k2, rfl⟩)
            | (go_at_fn 133; refine (HSb.out _).mono ?_; rintro y w2 ⟨rfl, ho, hg⟩))
          exact ⟨⟨j1, swp l' i j1, rfl, by omega, hide (HGo.out j1 _ k2 rfl HLess.out Hlv.out _ ho hg)⟩, by simp [intOf]; have := HJ1.out; have := HJ2.out; omega⟩
        | false =>
          have Hlv := hide hlv
          have HLb := hide (HLs.out j1 i wr 0 rfl (by omega) hii)
          rw [hlv] at HLb
          clear hlv
          go_wp2_with (first
            | (go_at_fn 132; refine (HLb.out).mono ?_; rintro y w1 ⟨rfl, k2, rfl⟩))
          go_ret
          exact ⟨⟨_, rfl⟩, l', HEnd.out j1 _ HLess.out Hlv.out⟩
end Go.Proofs.Ytplmcpdlommmaaa.Dq
namespace Go.Proofs.Ytplmcpdlommmaaa.Dq
open Go Go.RowKit Kt Kg Lw Tr

theorem wp_pushT {T : TypeId} (hT : Try.prog.underlying T = some (.slice tId)) {o : Oper} {a : Act} {K : Act → World → Prop} {Q : Exit → Act → World → Prop} {W : World} (s x : Operand)
    (ho : o.op = .call { callee := .builtin .append, args := #[s, x], argTypes := #[T, T] })
    (B : Nat) (w0 : World) (v : Value) (l : List Bs) (y : List UInt8) (cs : Array Value) (hs : a.eval s = v) (hx : a.eval x = .slice (some ⟨W.heap.size, 0, none⟩) 1 1) (hc : cs = #[.string ⟨y.toArray⟩])
    (hown : OwT W B tId v l) (hlen : l.length + 1 ≤ 1000000000) (hb : Below B w0 W) (hbase : B ≤ W.heap.size)
    (h : ∀ v' w', OwT w' B tId v' (l ++ [y]) → Below B w0 w' → W.grownBy w' v.ownBlock → (v'.ownBlock = v.ownBlock ∨ v'.ownBlock = some (W.heap.size + 1)) → K (a.put o.dst v') w') : o.wp Try.prog a (W.alloc (.cells cs tId)) K Q := by
  obtain ⟨i0, hi0, hz0, hz1, hz2⟩ := info_parts infoId
  subst hc
  have hown' : (W.alloc (.cells #[.string ⟨y.toArray⟩] tId)).ownsRow B tId 1 v l.length (texts l) := World.ownsRow.alloc hown _
  have hnews : ∀ j u, (texts [y])[j]? = some u → (W.alloc (.cells #[.string ⟨y.toArray⟩] tId)).cell? ((⟨W.heap.size, 0, none⟩ : Addr).add j) = some u := fun j u hu => by
    rw [Addr.add_mid, (Row.fresh W tId #[.string ⟨y.toArray⟩]).cell, Nat.zero_add]
    exact hu
  obtain ⟨v', w', hr, h1, h2, _⟩ := run_append_own (P := Try.prog) (W.alloc (.cells #[.string ⟨y.toArray⟩] tId)) B T o.type tId i0 (.string ⟨#[]⟩) 1 16 hT hi0 hz0 hz1 hz2 rfl (by omega) v l.length (texts l) hown'
    ⟨W.heap.size, 0, none⟩ 1 1 (texts [y]) rfl hnews (texts_one [y]) (by unfold maxLen; omega) (by omega) (by simp; omega)
  have hg := grownBy_back _ h2
  have hbl : v'.ownBlock = v.ownBlock ∨ v'.ownBlock = some (W.heap.size + 1) := by
    rcases hown'.2 with ⟨rfl, h0⟩ | ⟨g, cap, cur, rfl, _, hgg, hnc, _, hcs, htake⟩
    · have hr2 := run_append_nil (P := Try.prog) (W.alloc (.cells #[.string ⟨y.toArray⟩] tId)) T o.type tId i0 (.string ⟨#[]⟩) hT hi0 hz0 ⟨W.heap.size, 0, none⟩ 1 1 (texts [y]) (by rw [hz1]; rfl) hnews (by omega) (by omega) (by rw [hz2]; omega)
      rw [hr] at hr2
      injection hr2 with e1 _
      right
      rw [e1]
      simp [Value.ownBlock]
    · by_cases hroom : l.length + 1 ≤ cap
      · have hr2 := run_append_room (P := Try.prog) (W.alloc (.cells #[.string ⟨y.toArray⟩] tId)) T o.type tId i0 hT hi0 g l.length cap cur hgg ⟨W.heap.size, 0, none⟩ 1 1 (texts [y]) (by rw [hz1]; rfl) hnews (texts_one [y]) hroom (by rw [hz1, hcs]; simp [texts]; omega)
        rw [hr] at hr2
        injection hr2 with e1 _
        left
        rw [e1]
        rfl
      · have hr2 := run_append_grow (P := Try.prog) (W.alloc (.cells #[.string ⟨y.toArray⟩] tId)) T o.type tId i0 (.string ⟨#[]⟩) hT hi0 hz0 ⟨g, 0, none⟩ l.length cap (texts l) (by rw [hz1, texts_len]; omega) (World.ownsRow.cells hown' rfl)
          ⟨W.heap.size, 0, none⟩ 1 1 (texts [y]) (by rw [hz1]; rfl) hnews (by omega) (by omega) (growslice_fits (by omega) (by rw [hz2]; omega))
        rw [hr] at hr2
        injection hr2 with e1 _
        right
        rw [e1]
        simp [Value.ownBlock]
  unfold Oper.wp execOp
  simp only [ho, resolve, invoke, builtin, Sem.run_bind, Sem.run_pure, Result.andThen_ok, List.map_toArray, List.map_cons, List.map_nil, hs, hx, hr]
  refine h v' w' ?_ (hb.grown hg hbase fun k hk => (World.ownsRow.lt hown k hk).1) hg hbl
  unfold OwT
  rw [List.length_append, texts_append]
  exact h1

theorem assert_id (x : Bs) (w : World) : (Instr.typeAssert (.iface tId (kS x)) 20 tId false).run Try.prog w = .ok (kS x) w := by kernel_rfl
theorem set_heap {w : World} {q : Nat} {t : TypeId} {v u : Value} (h : w.heap[q]? = some (.cells #[v] t (0, 0))) : (w.setCell ⟨q, 0, none⟩ u).heap[q]? = some (.cells #[u] t (0, 0)) := by
  rw [Go.Sort.setCell_eq]
  show (w.heap.modify q _)[q]? = _
  rw [Array.getElem?_modify, if_pos rfl, h]
  rfl
theorem OwT.off {w : World} {B q i : Nat} {v u : Value} {l : List Bs} (h : OwT w B tId v l) (hq : ∀ g, v.ownBlock = some g → g ≠ q) : OwT (w.setCell ⟨q, i, none⟩ u) B tId v l := by
  refine ⟨h.1, ?_⟩
  rcases h.2 with k | ⟨g, cap, cur, hv, k1, k2, k3⟩
  · exact .inl k
  · exact .inr ⟨g, cap, cur, hv, k1, (Below.heap_setCell w ⟨q, i, none⟩ u g (hq g (by rw [hv]; rfl))).trans k2, k3⟩
set_option maxRecDepth 100000 in
set_option maxHeartbeats 2000000 in
theorem rlen_any (A : Option Addr) (n c : Nat) (w : World) : Calls Try.prog 131 #[.slice A n c] w fun y w' => y = .returned (.int .i64 n) ∧ w' = w := by
  go_enter Try.func131, Try.ntmps131
  go_wp2
  go_ret
  exact ⟨rfl, rfl⟩
theorem wpList_pushT {T : TypeId} (hT : Try.prog.underlying T = some (.slice tId)) {ops : Array Oper} {rest : List Oper} {o : Oper} {a : Act} {Q : Exit → Act → World → Prop} {W : World} (hgd : o.guard = none) (s x : Operand)
    (ho : o.op = .call { callee := .builtin .append, args := #[s, x], argTypes := #[T, T] })
    (B : Nat) (w0 : World) (v : Value) (l : List Bs) (y : List UInt8) (cs : Array Value) (hs : a.eval s = v) (hx : a.eval x = .slice (some ⟨W.heap.size, 0, none⟩) 1 1) (hc : cs = #[.string ⟨y.toArray⟩])
    (hown : OwT W B tId v l) (hlen : l.length + 1 ≤ 1000000000) (hb : Below B w0 W) (hbase : B ≤ W.heap.size)
    (h : ∀ v' w', OwT w' B tId v' (l ++ [y]) → Below B w0 w' → W.grownBy w' v.ownBlock → (v'.ownBlock = v.ownBlock ∨ v'.ownBlock = some (W.heap.size + 1)) → wpList Try.prog ops Q rest (a.put o.dst v') w') : wpList Try.prog ops Q (o :: rest) a (W.alloc (.cells cs tId)) :=
  wpList_plain hgd fun _ hK => wp_pushT hT s x ho B w0 v l y cs hs hx hc hown hlen hb hbase fun v' w' h1 h2 h3 h4 => hK _ _ (h v' w' h1 h2 h3 h4)
/-- what ready.Push leaves -/
def PushPost (w : World) (S : Nat → Prop) (q : Nat) (l : List Bs) (y : Ending) (w' : World) : Prop :=
  y = .returned (.tuple #[]) ∧ ∃ S' : Nat → Prop, HpIn w' S' q l ∧ Oth S w w' ∧ ∀ k, S' k → S k ∨ w.heap.size ≤ k
set_option maxRecDepth 100000 in
set_option maxHeartbeats 2000000 in
theorem rpush_any {w : World} {S : Nat → Prop} {q : Nat} {l : List Bs} (h : HpIn w S q l) (x : Bs) (hl : l.length ≤ 1000) :
    Calls Try.prog 135 #[pt q, .iface tId (kS x)] w (PushPost w S q (l ++ [x])) := by
  have hta := assert_id x
  obtain ⟨A, c, hcell, hfr, hown, hrow, hS, _⟩ := h.cell
  have hql := h.lt q h.own
  have c0 : w.drew.cell? ⟨q, 0, none⟩ = some (.slice A l.length c) := hcell
  have H := hide h
  have HO := hide hown
  have HS := hide hS
  have HR := hide hrow
  have HQ := hide hql
  obtain ⟨n, hn⟩ : ∃ n, n = l.length := ⟨_, rfl⟩
  rw [← hn] at c0 HO HR HS
  have HN := hide hn
  have HLe := hide hl
  clear h hcell hfr hown hrow hS hn hl hql
  go_enter Try.func135, Try.ntmps135
  go_wp2
  refine Rg.wp_region_ord (fun w' => w'.cell? ⟨q, 0, none⟩ = some (.slice A n c)) [(0, true), (1, true), (2, true), (3, true), (4, true), (5, true), (6, false), (7, false), (8, true), (9, false)] (by kernel_rfl) (by kernel_rfl) ?_
  simp only [Rg.pick, List.map_cons, List.map_nil, List.getD_cons_zero, List.getD_cons_succ]
  iterate 6 (refine Rg.ord_quiet (v := ?_) rfl (fun w' hS => ?_) c0 ?_; rotate_left; (go_simp; with_reducible rfl); simp only [Act.put, List.setIfInBounds_toArray, List.set_cons_succ, List.set_cons_zero])
  refine Rg.ord_loud rfl (fun K hK => ?_)
  go_simp
  have hr1 : (w.drew.alloc (.cells #[kS x] tId)).heap[q]? = some (.cells #[.slice A n c] tRdy (0, 0)) := (Below.heap_alloc w.drew (.cells #[kS x] tId) q HQ.out).trans HR.out
  have g0 : (w.drew.alloc (.cells #[kS x] tId)).cell? ⟨q, 0, none⟩ = some (.slice A n c) := by simp [World.cell?, hr1]
  refine hK _ _ (fun _ => g0) ?_
  clear hK K
  refine Rg.ord_loud rfl (fun K hK => ?_)
  refine wp_pushT (W := w.drew) Try.underlying94 (.tmp 7) (.tmp 10) rfl 0 w.drew (.slice A n c) l x _ rfl rfl rfl (show OwT w.drew 0 tId (.slice A n c) l from HO.out) (by have := HLe.out; omega) (Below.refl 0 w.drew) (Nat.zero_le _) ?_
  intro v' w5 hown5 _ hg5 hor5
  have hr5 : w5.heap[q]? = some (.cells #[.slice A n c] tRdy (0, 0)) := (hg5.block q HQ.out (fun e => (HS.out q e.symm).2 rfl)).trans HR.out
  have e0 : w5.cell? ⟨q, 0, none⟩ = some (.slice A n c) := by simp [World.cell?, hr5]
  have f0 : w5.frozen? ⟨q, 0, none⟩ = false := by simp [World.frozen?, hr5]
  have hvq : ∀ g, v'.ownBlock = some g → g ≠ q := fun g hg => by
    rcases hor5 with k | k
    · exact (HS.out g (by rw [← k]; exact hg)).2
    · rw [k] at hg
      injection hg with hg
      have h1 : w.drew.heap.size = w.heap.size := rfl
      have := HQ.out
      omega
  have HF := hide (show PushPost w S q (l ++ [x]) (.returned (.tuple #[])) (w5.setCell ⟨q, 0, none⟩ v') from by
    have hgd : w.grownBy w5 (Value.ownBlock (.slice A n c)) := ⟨hg5.os, hg5.tape, hg5.output, hg5.size, hg5.block⟩
    refine ⟨rfl, fun k => S k ∨ v'.ownBlock = some k, ⟨⟨v', set_heap hr5, OwT.off hown5 hvq, fun g hg => .inr hg⟩, .inl H.out.own, fun k hk => ?_⟩, ?_, fun k hk => ?_⟩
    · have e : (w5.setCell ⟨q, 0, none⟩ v').heap.size = w5.heap.size := by simp [World.setCell]
      rw [e]
      rcases hk with hk | hk
      · exact Nat.lt_of_lt_of_le (H.out.lt k hk) hgd.size
      · exact (World.ownsRow.lt hown5 k hk).2
    · exact (Oth.of_grown (S := S) hgd fun g e => (HS.out g e).1).put (.inl H.out.own) v'
    · rcases hk with hk | hk
      · exact .inl hk
      · rcases hor5 with z | z
        · exact .inl (HS.out k (by rw [← z]; exact hk)).1
        · rw [z] at hk
          injection hk with hk
          have h1 : w.drew.heap.size = w.heap.size := rfl
          exact .inr (by omega))
  obtain ⟨A5, c5, hv5, _⟩ := hown5.vs
  clear hown5 hg5 hor5 hr5 hvq c0 g0 hr1
  subst hv5
  generalize (l ++ [x]).length = n5 at HF ⊢
  refine hK _ _ (fun _ => e0) ?_
  clear hK K
  iterate 1 (refine Rg.ord_quiet (v := ?_) rfl (fun w' hS => ?_) e0 ?_; rotate_left; (go_simp; with_reducible rfl); simp only [Act.put, List.setIfInBounds_toArray, List.set_cons_succ, List.set_cons_zero])
  refine Rg.ord_loud rfl (fun K hK => ?_)
  go_simp
  refine hK _ _ (fun hf => absurd (show Rg.sink _ 9 = true from by kernel_rfl) (by rw [hf]; decide)) ?_
  clear hK K
  refine Rg.ord_nil ?_
  go_wp2
  refine bodyPost_end (results_none rfl _ _ _) rfl ?_
  exact HF.out
set_option maxRecDepth 100000 in
set_option maxHeartbeats 2000000 in
theorem rpop_any {w : World} {S : Nat → Prop} {q : Nat} {l : List Bs} {m : Nat} (h : HpIn w S q l) (hm : l.length = m + 1) (hl : l.length ≤ 1000) :
    Calls Try.prog 134 #[pt q] w fun y w' => y = .returned (.iface tId (kS (l.getD m []))) ∧ HpIn w' S q (l.take m) ∧ Oth S w w' := by
  obtain ⟨A, c, hcell, hfr, hown, hrow, hS, hne⟩ := h.cell
  obtain ⟨g, rfl⟩ := hne (fun e => by rw [e] at hm; simp at hm)
  have hlast := (rdy_cell hown (k := m) (by omega)).1
  have HF := hide (show HpIn (w.setCell ⟨q, 0, none⟩ (.slice (some ⟨g, 0, none⟩) m c)) S q (l.take m) ∧ Oth S w (w.setCell ⟨q, 0, none⟩ (.slice (some ⟨g, 0, none⟩) m c)) from by
    have hc := OwT.cut hown (m := m) (by omega)
    have e : (l.take m).length = m := by rw [List.length_take]; omega
    rw [e] at hc
    refine ⟨⟨⟨_, set_heap hrow, OwT.off hc fun g' hg' => (hS g' hg').2, fun g' hg' => (hS g' hg').1⟩, h.own, fun k hk => ?_⟩, (Oth.refl S w).put (.inl h.own) _⟩
    have e2 : (w.setCell ⟨q, 0, none⟩ (.slice (some ⟨g, 0, none⟩) m c)).heap.size = w.heap.size := by simp [World.setCell]
    rw [e2]
    exact h.lt k hk)
  obtain ⟨c2, hc2⟩ : ∃ c2 : Nat, c2 = c := ⟨_, rfl⟩
  have hmc : m ≤ c := by
    obtain ⟨_, _, k3, _⟩ := row_holds hown
    omega
  obtain ⟨x, hx⟩ : ∃ x, x = l.getD m [] := ⟨_, rfl⟩
  obtain ⟨l2, hl2⟩ : ∃ l2, l2 = l.take m := ⟨_, rfl⟩
  rw [← hx] at hlast ⊢
  rw [← hl2] at HF ⊢
  have e1 : ((m + 1 : Nat) : Int) - 1 = ((m : Nat) : Int) := by omega
  rw [hm] at hcell hl
  clear h hown hrow hS hne hx hl2 hm hc2
  go_enter Try.func134, Try.ntmps134
  go_wp2
  go_ret
  exact ⟨rfl, HF.out⟩
theorem Oth.two {S S' : Nat → Prop} {a b c : World} (h : Oth S a b) (k : Oth S' b c) (hS : ∀ i, S' i → S i ∨ a.heap.size ≤ i) : Oth S a c :=
  Oth.trans h k fun i hi hs => (hS i hs).resolve_right (by omega)
/-- what heap.Push leaves -/
def HeapPost (w : World) (S : Nat → Prop) (q : Nat) (l : List Bs) (y : Ending) (w' : World) : Prop :=
  y = .returned (.tuple #[]) ∧ ∃ (S' : Nat → Prop) (l' : List Bs), HpIn w' S' q l' ∧ l'.Perm l ∧ Hp l' l'.length ∧ Oth S w w' ∧ ∀ k, S' k → S k ∨ w.heap.size ≤ k
set_option maxRecDepth 100000 in
set_option maxHeartbeats 2000000 in
theorem hpush_any {w : World} {S : Nat → Prop} {q : Nat} {l : List Bs} (h : HpIn w S q l) (hh : Hp l l.length) (x : Bs) (hl : l.length ≤ 900) :
    Calls Try.prog 67 #[.iface 96 (pt q), .iface tId (kS x)] w (HeapPost w S q (l ++ [x])) := by
  have HPu := hide (rpush_any h x (by omega))
  have HH := hide hh
  obtain ⟨n, hn⟩ : ∃ n, n = l.length := ⟨_, rfl⟩
  have HN := hide hn
  rw [← hn] at hl
  have mP := fun w => meth_ptr mrow_push w q 259
  have eP := enPush
  have eL := enLen
  have e1 : ((n + 1 : Nat) : Int) - 1 = ((n : Nat) : Int) := by omega
  clear h hh hn
  go_enter Try.func67, Try.ntmps67
  go_wp2_with (go_at_fn 135; refine HPu.out.mono ?_; clear mP eP; rintro y w1 ⟨rfl, S1, h1, h2, h3⟩; obtain ⟨A1, c1, hc1, _⟩ := h1.cell; (have hlen1 : (l ++ [x]).length = n + 1 := by rw [List.length_append, HN.out]; rfl); rw [hlen1] at hc1; have mL := meth_val mrow_len hc1 259; have H1 := hide h1; have H2 := hide h2; have H3 := hide h3; clear h1 h2 h3 hlen1)
  have hlen1 : (l ++ [x]).length = n + 1 := by rw [List.length_append, HN.out]; rfl
  have HU := hide (up_any H1.out (j0 := n) (by rw [HN.out]; exact UpAt.start HH.out x) (by rw [hlen1]; omega) (by rw [hlen1]; omega))
  clear hlen1
  refine (rlen_any A1 (n + 1) c1 w1).mono ?_
  rintro y w2 ⟨rfl, rfl⟩
  go_wp2_with fail
  refine HU.out.mono ?_
  rintro y w3 ⟨rfl, l3, k1, k2, k3, k4⟩
  have HF := hide (show HeapPost w S q (l ++ [x]) (.returned (.tuple #[])) w3 from ⟨rfl, S1, l3, k1, k2, k3, Oth.two H2.out k4 H3.out, H3.out⟩)
  clear k1 k2 k3 k4
  go_wp2
  refine bodyPost_end (results_none rfl _ _ _) rfl ?_
  exact HF.out
/-- what heap.Pop leaves -/
def PopPost (w : World) (S : Nat → Prop) (q : Nat) (l : List Bs) (y : Ending) (w' : World) : Prop :=
  ∃ (x : Bs) (l' : List Bs), y = .returned (.iface tId (kS x)) ∧ HpIn w' S q l' ∧ Hp l' l'.length ∧ l.Perm (x :: l') ∧ (∀ y ∈ l', lt y x = false) ∧ Oth S w w'
set_option maxRecDepth 100000 in
set_option maxHeartbeats 2000000 in
theorem hpop_any {w : World} {S : Nat → Prop} {q : Nat} {l : List Bs} {n : Nat} (h : HpIn w S q l) (hh : Hp l l.length) (hn : l.length = n + 1) (hl : l.length ≤ 900) :
    Calls Try.prog 68 #[.iface 96 (pt q)] w (PopPost w S q l) := by
  obtain ⟨A, c, hcell, _, hown, hrow, hS, hne⟩ := h.cell
  obtain ⟨g, rfl⟩ := hne (fun e => by rw [e] at hn; simp at hn)
  rw [hn] at hcell
  have mL := meth_val mrow_len hcell 259
  have eL := enLen
  have mS := meth_val mrow_swap hcell 259
  have eS := enSwap
  have eP := enPop
  have e1 : ((n + 1 : Nat) : Int) - 1 = ((n : Nat) : Int) := by omega
  have HLen := hide (rlen_any (some ⟨g, 0, none⟩) (n + 1) c w)
  have HSw := hide (hpswap_any hown 0 n (by omega) (by omega) (by omega))
  rw [hn] at HSw
  have HT := hide (show ∀ w1, OwT w1 0 tId (.slice (some ⟨g, 0, none⟩) (n + 1) c) (swp l 0 n) → w.grownBy w1 (some g) → HpIn w1 S q (swp l 0 n) ∧ Oth S w w1 from fun w1 ho hg =>
    ⟨h.turn (by rw [hn] at hrow; exact hrow) (hS g rfl) ho hg, Oth.of_grown (S := S) hg fun g' e => by injection e with e; rw [← e]; exact (hS g rfl).1⟩)
  have HD := hide (show DownAt (swp l 0 n) 0 n from DownAt.start (by rw [← hn]; exact hh) hn)
  have HLn := hide hn
  have HH := hide hh
  rw [hn] at hl
  clear h hown hrow hS hne hcell hn hh
  go_enter Try.func68, Try.ntmps68
  go_wp2_with (go_at_fn 131; refine HLen.out.mono ?_; clear mL eL; rintro y w1 ⟨rfl, rfl⟩)
  refine HSw.out.mono ?_
  rintro y w1 ⟨rfl, ho, hg⟩
  obtain ⟨h1, h2⟩ := HT.out w1 ho hg
  have hlen1 : (swp l 0 n).length = n + 1 := by rw [swp_len, HLn.out]
  have HDn := hide (down_any h1 HD.out (by rw [hlen1]; omega) (by rw [hlen1]; omega))
  have H2 := hide h2
  clear ho hg h1 h2 mS eS HSw HT hlen1
  go_wp2_with fail
  refine HDn.out.mono ?_
  rintro y w2 ⟨⟨bd, rfl⟩, l2, k1, k2, k3, k4, k5⟩
  have hlen2 : l2.length = n + 1 := by rw [k2.length_eq, swp_len, HLn.out]
  have HPo := hide (rpop_any k1 hlen2 (by omega))
  have hlast : l2.getD n [] = l.getD 0 [] := by
    rw [k4, swp_at (by rw [HLn.out]; omega) (by rw [HLn.out]; omega), if_pos rfl]
  have HPp := hide (heap_pop HLn.out (by rw [← HLn.out]; exact HH.out) hlen2 (k2.trans (swp_perm (by rw [HLn.out]; omega) (by rw [HLn.out]; omega))) hlast k3)
  have K5 := hide (Oth.trans H2.out k5 fun _ _ h => h)
  have mP := meth_ptr mrow_pop w2 q 259
  clear k1 k2 k3 k4 k5 hlen2 hlast HDn H2
  go_wp2_with fail
  refine HPo.out.mono ?_
  rintro y w3 ⟨rfl, h3, h4⟩
  have HF := hide (show PopPost _ S q l (.returned (.iface tId (kS (l2.getD n [])))) w3 from ⟨_, _, rfl, h3, HPp.out.1, HPp.out.2.1, HPp.out.2.2, Oth.trans K5.out h4 fun _ _ h => h⟩)
  clear h3 h4 HPo HPp
  generalize l2.getD n [] = xv at HF ⊢
  go_wp2
  go_ret
  exact HF.out
end Go.Proofs.Ytplmcpdlommmaaa.Dq
