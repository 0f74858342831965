/-
  The regions of three lists, in memory.
-/
import Derived.BigQuiet
import Derived.Test.YtofccahgmkifjaaJK
import Derived.Test.YtofccahgmkifjaaQ13
import Derived.Test.YtofccahgmkifjaaQ1
import Derived.Test.YtofccahgmkifjaaQ11
namespace Go.Proofs.Ytofccahgmkifjaa.Al
open Go Go.RowKit Kt Kg Lw Li Df

theorem right_cnt {n : Nat} : ∀ {last : Int} {l : List Ed}, right n last l = true → -1 ≤ last → last ≤ n → (l.length : Int) ≤ n - last
  | _, [], _, _, h => by simp; omega
  | last, f :: l, h, hl, _ => by
    obtain ⟨p, d, _, _, hpd, hlp, _, hr'⟩ := right_head h hl
    have := right_cnt hr' (by omega) (by omega)
    simp only [List.length_cons]
    omega
theorem D_cnt (a b : Ls) : (D a b).length ≤ a.length + 1 := by
  have := right_cnt (D_right a b) (by omega) (by omega)
  omega
theorem owt_high {w w' : World} {B : Nat} {E : TypeId} {v : Value} {l : Ls} (h : OwT w B E v l) (hw : ∀ k, B ≤ k → w'.heap[k]? = w.heap[k]?) : OwT w' B E v l :=
  ⟨h.1, h.2.imp id fun ⟨g, cap, cur, hv', h1, h2, h3⟩ => ⟨g, cap, cur, hv', h1, (hw g h1).trans h2, h3⟩⟩
theorem owe_high {w w' : World} {B : Nat} {v : Value} {L : List Ed} (h : OwE w B v L) (hw : ∀ k, B ≤ k → w'.heap[k]? = w.heap[k]?) : OwE w' B v L := by
  obtain ⟨V, hV, hr, hi⟩ := h
  exact ⟨V, hV, ⟨hr.1, hr.2.imp id fun ⟨g, cap, cur, hv', h1, h2, h3⟩ => ⟨g, cap, cur, hv', h1, (hw g h1).trans h2, h3⟩⟩, fun p hp => owt_high (hi p hp) hw⟩
theorem Ct.oth {wd A B : World} {b : Nat} {X Y : List Ed} {S : Nat → Prop} (h : Ct wd A b X Y) (ho : Oth S A B) (hS : ∀ k, S k → k ≠ b ∧ (k < wd.heap.size → Dum wd k)) : Ct wd B b X Y := by
  obtain ⟨A1, c, A', c', hr, h1, h2⟩ := h.st
  refine ⟨⟨Nat.le_trans h.low.size ho.size, fun k hk => ?_⟩, h.out, A1, c, A', c', ho.row hr fun hs => (hS b hs).1 rfl, h1, h2⟩
  rcases h.low.block k hk with hd | he
  · exact .inl hd
  · by_cases hs : S k
    · exact .inl ((hS k hs).2 hk)
    · exact .inr ((ho.block k (Nat.lt_of_lt_of_le hk h.low.size) hs).trans he)
theorem es_at {w : World} {B : Nat} {A : Option Addr} {n c : Nat} {L : List Ed} (h : OwE w B (.slice A n c) L) : Es w A c L := by
  obtain ⟨A', c', e, hes⟩ := h.es
  injection e with e1 e2 e3
  subst e1 e3
  exact hes
theorem ct_start {w3 : World} {g B1 B2 n1 n2 c1 c2 : Nat} {A1 A2 : Option Addr} {X Y : List Ed} (h1 : OwE w3 B1 (.slice A1 n1 c1) X) (h2 : OwE w3 B2 (.slice A2 n2 c2) Y) (hg1 : g < B1) (hg2 : g < B2) (hg : g < w3.heap.size) (hn1 : n1 = X.length) (hn2 : n2 = Y.length) :
    Ct (w3.putObj g (.cells #[] 0 (0, 0))) (w3.alloc (.cells #[.slice A1 n1 c1, .slice A2 n2 c2] tL)) w3.heap.size X Y ∧ Dum (w3.putObj g (.cells #[] 0 (0, 0))) g := by
  have hd : Dum (w3.putObj g (.cells #[] 0 (0, 0))) g := fun o => by
    have h : (w3.putObj g (.cells #[] 0 (0, 0))).heap[g]? = some (.cells #[] 0 (0, 0)) := World.putObj_heap_same hg
    rw [cell_of_row _ g o #[] 0 (0, 0) h]
    simp
  refine ⟨⟨⟨by simp, fun k hk => ?_⟩, by simp, A1, c1, A2, c2, ?_, ?_, ?_⟩, hd⟩
  · by_cases hkg : k = g
    · subst hkg; exact .inl hd
    · refine .inr ?_
      rw [World.putObj_size] at hk
      exact (Below.heap_alloc w3 _ k hk).trans (World.putObj_heap_other (by omega)).symm
  · rw [hn1, hn2]; exact Row.fresh w3 tL _
  · exact es_at (owe_high h1 fun k hk => World.putObj_heap_other (by omega))
  · exact es_at (owe_high h2 fun k hk => World.putObj_heap_other (by omega))
/-- how much is told, and left -/
theorem add_len (a b : Ls) (s : St) (c : Cl) : (s.add a b c).l.length = s.l.length + 1 := by simp [St.add]
theorem keep_len (a b : Ls) (s : St) (t : Int) : (s.keep a b t).l.length ≤ s.l.length + 1 := by
  unfold St.keep
  split
  · rw [add_len]; omega
  · omega
set_option maxRecDepth 100000 in
set_option maxHeartbeats 4000000 in
theorem regions_any {w : World} {Ao Aa Ab : Option Addr} {co ca cb : Nat} {o a b : Ls} (ht : Trio w Ao Aa Ab co ca cb o a b) :
    Calls Try.prog 14 #[.slice Ao o.length co, .slice Aa a.length ca, .slice Ab b.length cb] w fun y w' => ∃ v, y = .returned v ∧ OwR w' w.heap.size v (regs o a b) ∧ Below w.heap.size w w' := by
  have Ht := hide ht
  have HD : Hid (∀ w1, Below w.heap.size w w1 → Calls Try.prog 26 #[.slice Ao o.length co, .slice Aa a.length ca] w1 fun e w' => ∃ v, e = .returned v ∧ OwE w' w1.heap.size v (D o a) ∧ Below w1.heap.size w1 w') :=
    fun w1 hb => diff_any o a Ao Aa co ca _ _ w1 (Lw.Vs.below ht.o_ hb) (Lw.Vs.below ht.a_ hb) ht.lo_ ht.la_
  have HD' : Hid (∀ w1, Below w.heap.size w w1 → Calls Try.prog 26 #[.slice Ao o.length co, .slice Ab b.length cb] w1 fun e w' => ∃ v, e = .returned v ∧ OwE w' w1.heap.size v (D o b) ∧ Below w1.heap.size w1 w') :=
    fun w1 hb => diff_any o b Ao Ab co cb _ _ w1 (Lw.Vs.below ht.o_ hb) (Lw.Vs.below ht.b_ hb) ht.lo_ ht.lb_
  obtain ⟨no, hno⟩ : ∃ z, z = o.length := ⟨_, rfl⟩
  obtain ⟨na, hna⟩ : ∃ z, z = a.length := ⟨_, rfl⟩
  obtain ⟨nb, hnb⟩ : ∃ z, z = b.length := ⟨_, rfl⟩
  rw [← hno, ← hna, ← hnb]
  rw [← hno, ← hna] at HD
  rw [← hno, ← hnb] at HD'
  have Hno := hide hno
  have Hna := hide hna
  have Hnb := hide hnb
  obtain ⟨g, hg⟩ : ∃ g, g = w.heap.size := ⟨_, rfl⟩
  obtain ⟨w1, hw1⟩ : ∃ w1, w1 = w.alloc (.cells #[.slice Ao no co, .int .i64 0, .slice Aa na ca, .int .i64 0, .slice Ab nb cb, .int .i64 0, .slice none 0 0] tPs) := ⟨_, rfl⟩
  have Hb1 := hide (show Below w.heap.size w w1 by rw [hw1]; exact (Below.refl _ w).alloc (Nat.le_refl _) _)
  have Hr1 := hide (show Row w1 g tPs (psC Ao no co 0 Aa na ca 0 Ab nb cb 0 (.slice none 0 0)) by rw [hw1, hg]; exact Row.fresh w tPs _)
  have Hs1 := hide (show w1.heap.size = g + 1 by rw [hw1, hg]; simp)
  have Hg := hide hg
  have Hw1 := hide hw1
  clear ht hno hna hnb hg hw1
  go_enter Try.func14, Try.ntmps14
  go_wp2_with (first | rw [← Hw1.out, ← Hg.out] | fail)
  refine (HD.out w1 Hb1.out).mono ?_
  rintro y w2 ⟨v1, rfl, hown1, hb2⟩
  obtain ⟨A1, c1, rfl, hes1⟩ := hown1.es
  obtain ⟨n1, hn1⟩ : ∃ z, z = (D o a).length := ⟨_, rfl⟩
  rw [← hn1] at hown1 ⊢
  have Hn1 := hide hn1
  have Hown1 := hide hown1
  have Hb2 := hide (Hb1.out.trans (hb2.mono Hb1.out.size))
  have Hr2 := hide (Hr1.out.below hb2 Hr1.out.lt)
  have Hs2 := hide (show g + 1 ≤ w2.heap.size by have := hb2.size; have := Hs1.out; omega)
  clear hes1 hn1 hown1 hb2
  go_wp2_with fail
  refine (HD'.out w2 Hb2.out).mono ?_
  rintro y w3 ⟨v2, rfl, hown2, hb3⟩
  obtain ⟨A2, c2, rfl, hes2⟩ := hown2.es
  obtain ⟨n2, hn2⟩ : ∃ z, z = (D o b).length := ⟨_, rfl⟩
  rw [← hn2] at hown2 ⊢
  have Hn2 := hide hn2
  have Hown2 := hide hown2
  have Hown1' := hide (Hown1.out.keep hb3)
  have Hb3 := hide (Hb2.out.trans (hb3.mono Hb2.out.size))
  have Hr3 := hide (Hr2.out.below hb3 Hr2.out.lt)
  have Hs3 := hide (show g + 1 ≤ w3.heap.size by have := hb3.size; have := Hs2.out; omega)
  have Hs12 := hide (show w1.heap.size = g + 1 ∧ g + 1 ≤ w2.heap.size from ⟨Hs1.out, Hs2.out⟩)
  clear hes2 hn2 hown2 hb3
  obtain ⟨q, hq⟩ : ∃ q, q = w3.heap.size := ⟨_, rfl⟩
  obtain ⟨w4, hw4⟩ : ∃ w4, w4 = w3.alloc (.cells #[.slice A1 n1 c1, .slice A2 n2 c2] tL) := ⟨_, rfl⟩
  have Hw4 := hide hw4
  have Hq := hide hq
  go_wp2_with (rw [← Hw4.out, ← Hq.out])
  have hcs := ct_start (g := g) Hown1'.out Hown2.out (by have := Hs12.out; omega) (by have := Hs12.out; omega) (by have := Hs3.out; omega) Hn1.out Hn2.out
  rw [← hw4, ← hq] at hcs
  obtain ⟨wd, hwd⟩ : ∃ wd, wd = w3.putObj g (.cells #[] 0 (0, 0)) := ⟨_, rfl⟩
  have hds : wd.heap.size = q := by rw [hwd, hq]; simp
  rw [← hwd] at hcs
  have Hds := hide hds
  have Hdum := hide hcs.2
  have hgq : g < q := by have := Hs3.out; omega
  have hwg : w.heap.size = g := Hg.out.symm
  have Hpar := hide (show Parts w (q + 1) w4 g Ao Aa Ab co ca cb o a b (.slice none 0 0) ⟨0, 0, 0, []⟩ from
    ⟨by rw [hw4, ← Hno.out, ← Hna.out, ← Hnb.out]; exact Hr3.out.alloc _, OwR.nil _ _, ⟨by omega, by rw [hw4, hq]; simp⟩, by rw [hw4]; exact Hb3.out.alloc Hb3.out.size _, by omega⟩)
  have Hct := hide hcs.1
  clear hcs hwd hds hw4 hq
  go_loopw [9] (fun _ wr => ∃ (X Y : List Ed) (V : List (Bool × Ed)) (s : St) (v : Value), Hid (Ct wd wr q X Y) ∧ Hid (RInv o a b V s (mrg X Y)) ∧ Hid (loop a b s (mrg X Y) = loop a b ⟨0, 0, 0, []⟩ (mrg (D o a) (D o b))) ∧ Hid (Parts w (q + 1) wr g Ao Aa Ab co ca cb o a b v s) ∧ Hid (s.l.length + 2 * (X.length + Y.length) ≤ 2 * (n1 + n2))) (fun _ wr => lenAt wr q 0 + lenAt wr q 1)
  case atStart => exact ⟨D o a, D o b, [], ⟨0, 0, 0, []⟩, .slice none 0 0, Hct.out, RInv.start o a b, rfl, Hpar.out, by rw [← Hn1.out, ← Hn2.out]; show Hid _; exact hide (by simp)⟩
  case round =>
    obtain ⟨X, Y, V, s, v, Hc, HI, HL, HP, HN⟩ := hrel
    have Hso := hide (some_any wd q X Y wr Hc.out)
    clear Hct Hpar
    by_cases hxy : X = [] ∧ Y = []
    · obtain ⟨rfl, rfl⟩ := hxy
      rw [decide_eq_false (show ¬ (([] : List Ed) ≠ [] ∨ ([] : List Ed) ≠ []) by simp)] at Hso
      go_wp2_with fail
      refine Hso.out.mono ?_
      rintro y w5 ⟨rfl, rfl⟩
      have hI := HI.out
      rw [mrg_nil] at hI
      obtain ⟨x0, y0, z0, hx, hy, hz, hX, hY, hZ, ha, hb⟩ := hI.inv.at_
      rw [ofS_nil, play] at ha hb
      have ha := congrArg List.length ha
      have hb := congrArg List.length hb
      rw [List.length_drop, List.length_drop] at ha hb
      have HK := hide (pkeep_any (T := o.length) HP.out Ht.out (by have := HN.out; have h1 := Hn1.out; have h2 := Hn2.out; have h3 := D_cnt o a; have h4 := D_cnt o b; have h5 := Ht.out.lo_; simp at this; omega) hx hy hz hX (Nat.le_refl _) (by omega) (by omega))
      rw [← Hno.out] at HK
      have HR := hide (show (s.keep a b (no : Int)).l = regs o a b by
        unfold regs
        rw [← HL.out, mrg_nil, loop_nil, Hno.out])
      clear hI ha hb hx hy hz hX hY hZ
      go_wp2_with fail
      refine HK.out.mono ?_
      rintro y w6 ⟨rfl, v', hp, ho⟩
      obtain ⟨Av, cv, rfl, _⟩ := hp.own.rgs
      have k6 := hp.row.cell 6
      simp only [psC, List.getElem?_cons_zero, List.getElem?_cons_succ] at k6
      rw [HR.out] at k6
      have Hp := hide hp
      clear hp ho
      go_wp2
      go_ret
      have hown := Hp.out.own
      rw [HR.out] at hown
      exact ⟨_, rfl, hown.base (by omega), Hp.out.low⟩
    · have hml := mrg_len _ X Y (Nat.le_refl _)
      have hpos : 0 < X.length + Y.length := by
        rcases Nat.eq_zero_or_pos (X.length + Y.length) with h0 | h0
        · exact absurd ⟨List.eq_nil_of_length_eq_zero (by omega), List.eq_nil_of_length_eq_zero (by omega)⟩ hxy
        · exact h0
      obtain ⟨d, e, r, hm⟩ : ∃ d e r, mrg X Y = (d, e) :: r := by
        cases hh : mrg X Y with
        | nil => rw [hh] at hml; simp at hml; omega
        | cons p r => exact ⟨p.1, p.2, r, rfl⟩
      rw [decide_eq_true (show X ≠ [] ∨ Y ≠ [] by
        by_cases h1 : X = []
        · exact .inr fun h2 => hxy ⟨h1, h2⟩
        · exact .inl h1)] at Hso
      have hI := HI.out
      rw [hm] at hI
      have hb1 := D_cnt o a
      have hb2 := D_cnt o b
      have hlo := Ht.out.lo_
      have hla := Ht.out.la_
      have hlb := Ht.out.lb_
      have hcount := HN.out
      rw [Hn1.out, Hn2.out] at hcount
      have hct0 := Hc.out
      have hqr : q < wr.heap.size := by obtain ⟨_, _, _, _, h, _, _⟩ := hct0.st; exact h.lt
      have HNX := hide (next_any wd wr q X Y d e r o.length hm hct0 hqr (by omega) (by omega) (fun p hp => by
        rw [hm] at hp
        have h1 := hI.low p hp
        omega))
      obtain ⟨X0, Y0, Z0, p, t, M1, M2, hz⟩ := hI.szs
      have Hz := hide hz
      have hfr := hz.fr
      have hto := hz.to
      obtain ⟨c, hc⟩ : ∃ c, c = clo d e r := ⟨_, rfl⟩
      rw [← hc] at HNX Hz hfr hto
      unfold clC at HNX
      rw [hfr, hto] at HNX
      have Hfr := hide hfr
      have Hto := hide hto
      have HI1 := hide hI
      have Hm := hide hm
      have Hcl := hide hc
      have Hml := hide (show X.length + Y.length = r.length + 1 by rw [← hml, hm]; simp)
      have HKE := hide (fun (wz : World) (hz7 : Parts w (q + 1) wz g Ao Aa Ab co ca cb o a b v s) => pkeep_any (T := p) hz7 Ht.out (by omega) hz.x hz.y hz.z hz.Xp (Nat.le_trans hz.pt hz.po) hz.Ya hz.Zb)
      have hzz := hz
      rw [← hc] at hzz
      have HAD := hide (fun (wz : World) (vz : Value) (hz8 : Parts w (q + 1) wz g Ao Aa Ab co ca cb o a b vz (s.keep a b p)) => padd_any c (X := p) (Y := Y0 + (p - X0)) (Z := Z0 + (p - X0)) (M := t - p) (M1 := M1) (M2 := M2) hz8 Ht.out
        (by have := keep_len a b s p; omega) hzz.kx hzz.ky hzz.kz (by rw [hfr, hto]; have := hzz.pt; omega) hzz.m1 hzz.m2 (by have := hzz.pt; have := hzz.po; omega) hzz.Y1 hzz.Z1)
      rw [hfr, hto] at HAD
      obtain ⟨m0, hm0⟩ : ∃ z, z = c.m0 := ⟨_, rfl⟩
      obtain ⟨m1, hm1⟩ : ∃ z, z = c.m1 := ⟨_, rfl⟩
      obtain ⟨k0, hk0⟩ : ∃ z, z = c.n0 := ⟨_, rfl⟩
      obtain ⟨k1, hk1⟩ : ∃ z, z = c.n1 := ⟨_, rfl⟩
      rw [← hm0, ← hm1, ← hk0, ← hk1] at HNX HAD
      have hgq2 := hgq
      have hHP := HP.out
      clear hml hpos hm hI hb1 hb2 hlo hla hlb hcount hct0 hz hfr hto hc hm0 hm1 hk0 hk1 hxy hzz
      go_wp2_with fail
      refine Hso.out.mono ?_
      rintro y w5 ⟨rfl, rfl⟩
      go_wp2_with fail
      refine HNX.out.mono ?_
      rintro y w6 ⟨X', Y', rfl, hm', hct6, hg6⟩
      have Hm' := hide hm'
      have Hct6 := hide hct6
      have hp6 := hHP.grown hg6 (fun k e => by cases e; exact ⟨by omega, by omega, .inl (by omega)⟩)
      have hvl : ∀ k, v.ownBlock = some k → q + 1 ≤ k ∧ k < w6.heap.size := fun k hk => World.ownsRow.lt hp6.own k hk
      obtain ⟨qc, hqc⟩ : ∃ qc, qc = w6.heap.size := ⟨_, rfl⟩
      obtain ⟨w7, hw7⟩ : ∃ w7, w7 = w6.alloc (.cells #[.int .i64 p, .int .i64 t, .int .i64 k0, .int .i64 m0, .int .i64 k1, .int .i64 m1] tC) := ⟨_, rfl⟩
      have hg67 : w6.grownBy w7 none := by rw [hw7]; exact World.grownBy_alloc w6 _ none
      have hrow7 : Row w7 qc tC [.int .i64 p, .int .i64 t, .int .i64 k0, .int .i64 m0, .int .i64 k1, .int .i64 m1] := by rw [hw7, hqc]; exact Row.fresh w6 tC _
      have hp7 := hp6.grown hg67 (fun k e => by cases e)
      have hct7 := hct6.grown hg67 (fun k e => by cases e)
      have c0 := hrow7.cell 0
      simp only [List.getElem?_cons_zero] at c0
      have Hw7 := hide hw7
      have Hqc := hide hqc
      have Hp7 := hide hp7
      have Hct7 := hide hct7
      have Hrow7 := hide hrow7
      have Hvl := hide hvl
      have Hg6 := hide hg6
      have Hgl := hide (show g < w6.heap.size from hp6.row.lt)
      clear hm' hct6 hp6 hvl hqc hw7 hg67 hrow7 hp7 hct7 hg6 hHP
      go_wp2_with (first | rw [← Hw7.out, ← Hqc.out] | fail)
      refine (HKE.out w7 Hp7.out).mono ?_
      rintro y w8 ⟨rfl, v8, hp8, ho8⟩
      have hrow8 := ho8.row Hrow7.out (fun h => by
        have := Hqc.out
        rcases h with h | h
        · have := Hgl.out; omega
        · have := (Hvl.out qc h).2; omega)
      have c0' := hrow8.cell 0
      have c1' := hrow8.cell 1
      have c2' := hrow8.cell 2
      have c3' := hrow8.cell 3
      have c4' := hrow8.cell 4
      have c5' := hrow8.cell 5
      simp only [List.getElem?_cons_zero, List.getElem?_cons_succ] at c0' c1' c2' c3' c4' c5'
      have Hct8 := hide (Hct7.out.oth ho8 (fun k h => by
        have := Hds.out
        rcases h with rfl | h
        · exact ⟨by omega, fun _ => Hdum.out⟩
        · have := Hvl.out k h; exact ⟨by omega, fun _ => by omega⟩))
      have Hp8 := hide hp8
      clear c0 hrow8 hp8 ho8
      go_wp2_with fail
      refine (HAD.out w8 v8 Hp8.out).mono ?_
      rintro y w9 ⟨rfl, v9, hp9, ho9⟩
      have hv8 : ∀ k, v8.ownBlock = some k → q + 1 ≤ k := fun k hk => (World.ownsRow.lt Hp8.out.own k hk).1
      have hct9 := Hct8.out.oth ho9 (fun k h => by
        have := Hds.out
        rcases h with rfl | h
        · exact ⟨by omega, fun _ => Hdum.out⟩
        · have := hv8 k h; exact ⟨by omega, fun _ => by omega⟩)
      have Hp9 := hide hp9
      have Hct9 := hide hct9
      clear hp9 ho9 hv8 hct9 c0' c1' c2' c3' c4' c5'
      go_wp2
      have hnx : nxt a b s d e r = (s.keep a b p).add a b c := by
        unfold nxt
        rw [← Hcl.out, Hfr.out]
      have hlen : X'.length + Y'.length ≤ r.length := by
        rw [← mrg_len _ X' Y' (Nat.le_refl _), Hm'.out]
        exact grow_len _ r
      have hml := Hml.out
      refine ⟨⟨X', Y', V ++ clu d e r, nxt a b s d e r, v9, Hct9, ?_, ?_, ?_, ?_⟩, ?_⟩
      · rw [Hm'.out]; exact HI1.out.next
      · rw [Hm'.out, ← HL.out, Hm.out, loop_cons]; rfl
      · rw [hnx]; exact Hp9
      · have h1 := HN.out
        have h2 := keep_len a b s p
        have h3 := add_len a b (s.keep a b p) c
        rw [hnx, h3]
        show _ ≤ _
        omega
      · rw [Hct9.out.len.1, Hct9.out.len.2, Hc.out.len.1, Hc.out.len.2]
        omega
end Go.Proofs.Ytofccahgmkifjaa.Al
