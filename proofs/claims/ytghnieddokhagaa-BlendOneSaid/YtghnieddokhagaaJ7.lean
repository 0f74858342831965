/-
  The reference's Regions.
-/
import Derived.BigQuiet
import Derived.Test.YtghnieddokhagaaJ6
namespace Go.Proofs.Ytghnieddokhagaa.Al
open Go Go.RowKit Kt Kg Lw Li Df Kf

theorem add_len' (a b : Ls) (s : St) (c : Cl) : (s.add a b c).l.length = s.l.length + 1 := by simp [St.add]
theorem keep_len' (a b : Ls) (s : St) (t : Int) : (s.keep a b t).l.length ≤ s.l.length + 1 := by
  unfold St.keep
  split
  · rw [add_len']; omega
  · omega
theorem keep_ge (a b : Ls) (s : St) (t : Int) : s.l.length ≤ (s.keep a b t).l.length := by
  unfold St.keep
  split
  · rw [add_len']; omega
  · omega
/-- the first edit that isn't gone through -/
theorem RInv.first {o a b : Ls} {V : List (Bool × Ed)} {s : St} {d : Bool} {e : Ed} {r : List (Bool × Ed)} {U : Nat → Bool} {N no X : Nat} {f1 f2 : Int} (h : RInv o a b V s ((d, e) :: r)) (hN : N = (D o a).length + (D o b).length) (hno : no = o.length) (hX : s.x = X)
    (hU : ∀ i, i < N → (U i = true ↔ el (D o a) (D o b) i ∈ V)) (hF : Fst (cur (D o a) (D o b) U) X (no + 1) N f1 f2) : ∃ f : Nat, f < N ∧ f1 = f ∧ f2 = e.pos ∧ el (D o a) (D o b) f ∈ clu d e r := by
  have hl := h.low
  obtain ⟨i0, hi0, he0⟩ := el_ex (F := D o a) (G := D o b) (p := (d, e)) (by rw [h.all]; simp)
  rw [← hN] at hi0
  have hu0 : U i0 = false := by
    cases hu : U i0
    · rfl
    · have hv := (hU i0 hi0).1 hu
      rw [he0] at hv
      exact absurd (by simp [clu] : (d, e) ∈ clu d e r) (h.apart (.inl hv))
  have hc0 : cur (D o a) (D o b) U i0 = e := by unfold cur; rw [hu0, he0]; simp
  have hle := hl (d, e) (by simp)
  simp only at hle
  rcases hF with ⟨h1, h2, h3⟩ | ⟨f, h1, h2, h3, h4, h5, h6⟩
  · exfalso
    have := h3 i0 hi0
    rw [hc0] at this
    omega
  · have huf : U f = false := by
      cases hu : U f
      · rfl
      · unfold cur at h4
        rw [if_pos hu] at h4
        simp only [neg] at h4
        omega
    have hcf : cur (D o a) (D o b) U f = (el (D o a) (D o b) f).2 := by unfold cur; rw [huf]; simp
    have hmem := el_mem (F := D o a) (G := D o b) (i := f) (by omega)
    have hmr : el (D o a) (D o b) f ∈ (d, e) :: r := by
      rw [h.all] at hmem
      rcases List.mem_append.1 hmem with hm | hm
      · rw [(hU f h1).2 hm] at huf; cases huf
      · exact hm
    have hge : e.pos ≤ (el (D o a) (D o b) f).2.pos := by
      rcases List.mem_cons.1 hmr with hm | hm
      · rw [hm]; exact Int.le_refl _
      · exact (List.pairwise_cons.1 h.inv.srt).1 _ hm
    have hmin := h6 i0 hi0 (by rw [hc0]; omega)
    rw [hc0, hcf] at hmin
    rw [hcf] at h3
    have hlf := hl _ hmr
    refine ⟨f, h1, h2, by omega, h.closed (p := (d, e)) (by simp [clu]) hmem (meetE_iff.2 ⟨?_, ?_⟩)⟩
    · simp only; omega
    · simp only; omega
theorem RInv.none {o a b : Ls} {V : List (Bool × Ed)} {s : St} {U : Nat → Bool} {N no X : Nat} {f1 f2 : Int} (h : RInv o a b V s []) (hN : N = (D o a).length + (D o b).length)
    (hU : ∀ i, i < N → (U i = true ↔ el (D o a) (D o b) i ∈ V)) (hF : Fst (cur (D o a) (D o b) U) X (no + 1) N f1 f2) : f1 = -1 ∧ f2 = no + 1 := by
  rcases hF with ⟨h1, h2, _⟩ | ⟨f, h1, h2, h3, h4, h5, h6⟩
  · exact ⟨h1, h2⟩
  · exfalso
    have hmem := el_mem (F := D o a) (G := D o b) (i := f) (by omega)
    rw [h.all, List.append_nil] at hmem
    have hu := (hU f h1).2 hmem
    unfold cur at h4
    rw [if_pos hu] at h4
    simp only [neg] at h4
    omega
set_option maxRecDepth 100000 in
set_option maxHeartbeats 4000000 in
theorem refRegions_any {w : World} {Ao Aa Ab : Option Addr} {co ca cb : Nat} {o a b : Ls} (ht : Trio w Ao Aa Ab co ca cb o a b) (hsm : o.length ≤ 700 ∧ a.length ≤ 700 ∧ b.length ≤ 700) :
    Calls Try.prog 46 #[.slice Ao o.length co, .slice Aa a.length ca, .slice Ab b.length cb] w fun y w' => ∃ v, y = .returned v ∧ OwR w' w.heap.size v (regs o a b) ∧ Below w.heap.size w w' := by
  have Ht := hide ht
  have HD : Hid (∀ w1, Below w.heap.size w w1 → Calls Try.prog 67 #[.slice Ao o.length co, .slice Aa a.length ca] w1 fun e w' => ∃ v, e = .returned v ∧ OwE w' w1.heap.size v (D o a) ∧ Below w1.heap.size w1 w') :=
    fun w1 hb => refDiff_any o a Ao Aa co ca _ _ w1 (Lw.Vs.below ht.o_ hb) (Lw.Vs.below ht.a_ hb) (by omega) (by omega)
  have HD' : Hid (∀ w1, Below w.heap.size w w1 → Calls Try.prog 67 #[.slice Ao o.length co, .slice Ab b.length cb] w1 fun e w' => ∃ v, e = .returned v ∧ OwE w' w1.heap.size v (D o b) ∧ Below w1.heap.size w1 w') :=
    fun w1 hb => refDiff_any o b Ao Ab co cb _ _ w1 (Lw.Vs.below ht.o_ hb) (Lw.Vs.below ht.b_ hb) (by omega) (by omega)
  have hlow := (RInv.start o a b).low
  have hca := D_cnt o a
  have hcb := D_cnt o b
  have Hsm := hide hsm
  have Hcc := hide (show (D o a).length ≤ 701 ∧ (D o b).length ≤ 701 by omega)
  obtain ⟨no, hno⟩ : ∃ z, z = o.length := ⟨_, rfl⟩
  obtain ⟨na, hna⟩ : ∃ z, z = a.length := ⟨_, rfl⟩
  obtain ⟨nb, hnb⟩ : ∃ z, z = b.length := ⟨_, rfl⟩
  rw [← hno, ← hna, ← hnb]
  rw [← hno, ← hna] at HD
  rw [← hno, ← hnb] at HD'
  have Hno := hide hno
  have Hna := hide hna
  have Hnb := hide hnb
  have hno1 : no ≤ 700 := by omega
  have Hlow := hide hlow
  clear ht hno hna hnb hca hcb hsm hlow
  go_enter Try.func46, Try.ntmps46
  go_wp2_with fail
  refine (HD.out w (Below.refl _ _)).mono ?_
  rintro y w1 ⟨v1, rfl, hown1, hb1⟩
  obtain ⟨A1, c1, rfl, _⟩ := hown1.es
  obtain ⟨n1, hn1⟩ : ∃ z, z = (D o a).length := ⟨_, rfl⟩
  rw [← hn1] at hown1 ⊢
  have Hn1 := hide hn1
  have Hown1 := hide hown1
  have Hb1 := hide hb1
  clear hn1 hown1 hb1
  go_wp2_with (refine Ke.wpList_catE rfl (.tmp 28) (.tmp 29) rfl w.heap.size w _ _ [] (D o a) rfl rfl (owe_empty w1 _ Hb1.out.size) (Hown1.out.put_box _) (by have := Hcc.out; simp; omega) (Hb1.out.alloc Hb1.out.size _) (by have := Hb1.out.size; simp; omega) (fun v2 w2 h1 h2 _ => ?_); have H1 := hide h1; have H2 := hide h2; clear h1 h2)
  refine (HD'.out w2 H2.out).mono ?_
  rintro y w3 ⟨v3, rfl, hown3, hb3⟩
  have hown2 := H1.out.keep hb3
  have hown3' := OwE.base hown3 H2.out.size
  have Hb3 := hide (H2.out.trans (hb3.mono H2.out.size))
  have Hown2 := hide hown2
  have Hown3 := hide hown3'
  clear hown3 hb3 hown2 hown3' H1
  go_wp2_with (refine Ke.wpList_catE rfl (.tmp 30) (.tmp 33) rfl w.heap.size w _ _ ([] ++ D o a) (D o b) rfl rfl Hown2.out Hown3.out (by have := Hcc.out; simp; omega) Hb3.out Hb3.out.size (fun v4 w4 h1 h2 _ => ?_); have H3 := hide h1; have H4 := hide h2; clear h1 h2)
  have hE : Hid (OwE w4 w.heap.size v4 (D o a ++ D o b)) := H3.out
  obtain ⟨A8, c8, rfl, hes⟩ := hE.out.es
  obtain ⟨N, hN⟩ : ∃ N, N = (D o a ++ D o b).length := ⟨_, rfl⟩
  have hNN : N = (D o a).length + (D o b).length := by rw [hN, List.length_append]
  have hgetD := app_at (D o a) (D o b)
  have hmk : mtE (D o a ++ D o b) = fun x y => meetE (el (D o a) (D o b) x).2 (el (D o a) (D o b) y).2 := by
    funext x y
    unfold mtE
    rw [hgetD, hgetD]
  have HMA := hide (marks_any (D o a ++ D o b) A8 c8 w4 hes (fun i hi => by
    rw [hgetD]
    have hm := el_mem (F := D o a) (G := D o b) (i := i) (by rw [← hNN, hN]; exact hi)
    have h1 := Hlow.out _ hm
    have h2 := Hsm.out
    exact ⟨by omega, by omega, by omega, by omega⟩) (by rw [← hN, hNN]; have := Hcc.out; omega))
  rw [← hN, hmk] at HMA
  rw [← hN] at hE ⊢
  have HNN := hide hNN
  have hN2 : N ≤ 1402 := by have := Hcc.out; omega
  clear hes hN hNN hgetD hmk H3 Hown2 Hown3 Hown1 HD HD'
  refine HMA.out.mono ?_
  rintro y w5 ⟨v9, R, rfl, hm5, hmk5, hb5⟩
  have HR5 := hide (show RO w w5 o a b N (.slice A8 N c8) v9 (.slice none 0 0) R 0 0 0 [] (mrg (D o a) (D o b)) ⟨0, 0, 0, []⟩ (fun _ => false) from
    ⟨⟨rfl, rfl, rfl⟩, RInv.start o a b, rfl, OwR.nil _ _, by
      have h := hE.out.keep hb5
      rw [app_lay, ← HNN.out] at h
      exact h, own_base hm5 H4.out.size, fun i _ => by simp, H4.out.trans (hb5.mono H4.out.size), by
      rw [mrg_len _ _ _ (Nat.le_refl _), ← HNN.out]; simp⟩)
  have HMk := hide hmk5
  clear hm5 hmk5 hb5 HMA hE H4
  go_wp2
  go_loopw [11, 12, 13, 10] (fun vat vx vy vo wr => ∃ (X Y Z : Nat) (v0 : Value) (V l : List (Bool × Ed)) (s : St) (U : Nat → Bool), vat = .int .i64 X ∧ vx = .int .i64 Y ∧ vy = .int .i64 Z ∧ v0 = vo ∧ Hid (RO w wr o a b N (.slice A8 N c8) v9 v0 R X Y Z V l s U)) (fun _ _ _ vo _ => 2 * N + 1 - lenV vo)
  case atStart => exact ⟨0, 0, 0, _, _, _, _, _, rfl, rfl, rfl, rfl, HR5⟩
  case round =>
    obtain ⟨X, Y, Z, v0, V, l, s, U, rfl, rfl, rfl, rfl, HR⟩ := hrel
    clear HR5
    generalize hB2 : Code.block 2 _ = B2
    generalize hB17 : Code.seq (Code.region 17 _ _) _ = B17
    generalize hB24 : Code.seq (Code.region 24 _ _) _ = B24
    have HB2 := hide hB2
    have HB17 := hide hB17
    have HB24 := hide hB24
    clear hB2 hB17 hB24
    obtain ⟨X0, Y0, Z0, hX0, hY0, hZ0, hXo, hYa, hZb, _⟩ := HR.out.inv.inv.at_
    obtain ⟨x1, x2, x3⟩ := HR.out.xyz
    have hXn : X ≤ no := by have := Hno.out; omega
    have b1 : decide ((X : Int) ≤ (no : Int)) = true := decide_eq_true (by omega)
    have b10 : decide (X ≤ no) = true := decide_eq_true hXn
    have w1' : IntKind.i64.wrap ((no : Int) + 1) = (no : Int) + 1 := IntWalk.i64_in _ (by omega)
    have Hbd := hide (show Y ≤ a.length ∧ Z ≤ b.length by omega)
    clear hX0 hY0 hZ0 hXo hYa hZb x1 x2 x3
    go_wp2
    rename_i KK hKK
    have hes := es_at HR.out.eds
    refine rg_first _ _ _ _ _ _ _ _ _ _ _ _ _ _ _ _ _ _ _ _ _ _ _ _ _ _ _ _ _ _ _ _ _ _ _ _ _ _ _ _ _ _ _ _ _ _ _ _ _ _ _ _ _ _ _ _ _ _ _ _ _ _ _ _ _ _ _ _ _ _ _ _ _ _ _ _ _ _ _ _ _ _ _ _ _ _ _ _ _ _ _ _ _ _ _ _ _ _ _ _ _ _ _ _ _ _ _ _ _ _ _ _ _ _ _ _ _ _ _ _ _ _ _ _ _ _ _ _ _ _ _ _ _ _ _ _ _ _ _ _ _ _ _ _ _ _ _ _ _ _ _ _ _ _ _ _ _ _ _ _ _ _ _ _ _ _ _ _ _ _ _ _ _ _ _ _ _ _ _ _ _ _ _ _ _ _ _ _ _ _ _ _ _ _ _ _ _ _ _ _ _ _ _ _ _ _ _ _ _ _ _ _ _ _ _ _ _ _ _ _ _ _ _ _ _ _ _ _ _ _ _ _ _ _ _ _ _ _ _ _ _ _ _ _ _ _ _ _ _ _ _ _ _ _ _ _ _ _ _ _ _ _ _ _ _ _ _ _ _ _ _ _ _ (by rw [← HB2.out]; kernel_rfl) hes (by omega) ?_
    intro u44' u45' u46' u47' u48' u49' u50' u51' u52' u53' u54' u55' u56' u57' u58' u59' u60' u61' u62' u63' u64' u65' u66' u67' u68' u69' u70' u71' f1 f2 hF
    refine hKK _ _ ?_
    clear hKK KK hes
    have HF := hide hF
    clear hF
    cases l with
    | nil =>
      obtain ⟨rfl, rfl⟩ := HR.out.inv.none HNN.out HR.out.use HF.out
      obtain ⟨X0, Y0, Z0, hX0, hY0, hZ0, hXo, hYa, hZb, ha, hb⟩ := HR.out.inv.inv.at_
      obtain ⟨x1, x2, x3⟩ := HR.out.xyz
      rw [ofS_nil, play] at ha hb
      have ha := congrArg List.length ha
      have hb := congrArg List.length hb
      rw [List.length_drop, List.length_drop] at ha hb
      have hnoo := Hno.out
      have hss := Hsm.out
      have hbb := Hbd.out
      have hcn := HR.out.cnt
      have hnn : ((-1 : Int) < 0) := by omega
      clear ha hb hX0 hY0 hZ0 hXo hYa hZb
      go_wp2
      rename_i KK hKK
      refine rg_keep _ _ _ _ _ _ _ _ _ _ _ _ _ _ _ _ _ _ _ _ _ _ _ _ _ _ _ _ _ _ _ _ _ _ _ _ _ _ _ _ _ _ _ _ _ _ _ _ _ _ _ _ _ _ _ _ _ _ _ _ _ _ _ _ _ _ _ _ _ _ _ _ _ _ _ _ _ _ _ _ _ _ _ _ _ _ _ _ _ _ _ _ _ _ _ _ _ _ _ _ _ _ _ _ _ _ _ _ _ _ _ _ _ _ _ _ _ _ _ _ _ _ _ _ _ _ _ _ _ _ _ _ _ _ _ _ _ _ _ _ _ _ _ _ _ _ _ _ _ _ _ _ _ _ _ _ _ _ _ _ _ _ _ _ _ _ _ _ _ _ _ _ _ _ _ _ _ _ _ _ _ _ _ _ _ _ _ _ _ _ _ _ _ _ _ _ _ _ _ _ _ _ _ _ _ _ _ _ _ _ _ _ _ _ _ _ _ _ _ _ _ _ _ _ _ _ _ _ _ _ _ _ _ _ _ _ _ _ _ _ _ _ _ _ _ _ _ _ _ _ _ _ _ _ _ _ _ _ _ _ _ _ _ _ _ _ _ _ _ _ _ _ (a := a) (b := b) (by rw [← HB17.out]; kernel_rfl) HR.out.out HR.out.low.size (by omega) x1 x2 x3 hXn (Nat.le_refl _) ⟨by omega, by omega, by omega⟩ (.inr ⟨rfl, rfl⟩) ?_
      intro y17a y72a y73a y74a y75a y76a y77a y78a y79a y80a y81a y82a y83a y84a y85a y86a y87a y88a y89a y90a y91a y92a y93a y94a y95a y96a y97a y98a y99a y100a y101a y102a y103a y104a y105a v' w6 hout6 hg6 hb6
      refine hKK _ _ ?_
      clear hKK KK hcn hbb hss hnoo x1 x2 x3
      have hreg : (s.keep a b (no : Int)).l = regs o a b := by
        unfold regs
        rw [← HR.out.lp, loop_nil, Hno.out]
      rw [hreg] at hout6
      have Hout6 := hide hout6
      have Hb6 := hide (HR.out.low.trans hb6)
      clear hreg hout6 hb6 hg6
      go_wp2
      go_ret
      exact ⟨_, rfl, Hout6.out, Hb6.out⟩
    | cons pe r =>
      obtain ⟨d, e⟩ := pe
      obtain ⟨X0, Y0, Z0, p, t, M1, M2, hz⟩ := HR.out.inv.szs
      obtain ⟨x1, x2, x3⟩ := HR.out.xyz
      obtain ⟨f, hf, rfl, rfl, hfC⟩ := HR.out.inv.first HNN.out Hno.out x1 HR.out.use HF.out
      have e1 := hz.x
      have e2 := hz.y
      have e3 := hz.z
      obtain rfl : X0 = X := by omega
      obtain rfl : Y0 = Y := by omega
      obtain rfl : Z0 = Z := by omega
      have hlo := HR.out.inv.low (d, e) (by simp)
      simp only at hlo
      have hfr := (clo_to (d := d) (e := e) (r := r) hlo.2.1 hlo.2.2.1).1
      rw [hz.fr] at hfr
      rw [← hfr]
      have hnf : ¬ ((f : Int) < 0) := by omega
      have hnf' : decide ((f : Int) < 0) = false := decide_eq_false hnf
      have Hz := hide hz
      have HfC := hide hfC
      have hcn := HR.out.cnt
      simp only [List.length_cons] at hcn
      have hkl := keep_len' a b s p
      have hpo : p ≤ no := by have := hz.pt; have := hz.po; have := Hno.out; omega
      have hYs : Y0 ≤ 700 ∧ Z0 ≤ 700 := by have := Hbd.out; have := Hsm.out; omega
      have Hx := hide (show s.x = X0 ∧ s.y = Y0 ∧ s.z = Z0 from ⟨x1, x2, x3⟩)
      have Hcn := hide hcn
      have Hxp := hide hz.Xp
      clear e1 e2 e3 hlo hfr hfC x1 x2 x3 hz
      go_wp2
      rename_i KK hKK
      refine rg_keep _ _ _ _ _ _ _ _ _ _ _ _ _ _ _ _ _ _ _ _ _ _ _ _ _ _ _ _ _ _ _ _ _ _ _ _ _ _ _ _ _ _ _ _ _ _ _ _ _ _ _ _ _ _ _ _ _ _ _ _ _ _ _ _ _ _ _ _ _ _ _ _ _ _ _ _ _ _ _ _ _ _ _ _ _ _ _ _ _ _ _ _ _ _ _ _ _ _ _ _ _ _ _ _ _ _ _ _ _ _ _ _ _ _ _ _ _ _ _ _ _ _ _ _ _ _ _ _ _ _ _ _ _ _ _ _ _ _ _ _ _ _ _ _ _ _ _ _ _ _ _ _ _ _ _ _ _ _ _ _ _ _ _ _ _ _ _ _ _ _ _ _ _ _ _ _ _ _ _ _ _ _ _ _ _ _ _ _ _ _ _ _ _ _ _ _ _ _ _ _ _ _ _ _ _ _ _ _ _ _ _ _ _ _ _ _ _ _ _ _ _ _ _ _ _ _ _ _ _ _ _ _ _ _ _ _ _ _ _ _ _ _ _ _ _ _ _ _ _ _ _ _ _ _ _ _ _ _ _ _ _ _ _ _ _ _ _ _ _ _ _ _ (a := a) (b := b) (by rw [← HB17.out]; kernel_rfl) HR.out.out HR.out.low.size (by omega) Hx.out.1 Hx.out.2.1 Hx.out.2.2 Hxp.out hpo ⟨by omega, by omega, by omega⟩ (.inl rfl) ?_
      intro y17a y72a y73a y74a y75a y76a y77a y78a y79a y80a y81a y82a y83a y84a y85a y86a y87a y88a y89a y90a y91a y92a y93a y94a y95a y96a y97a y98a y99a y100a y101a y102a y103a y104a y105a v' w6 hout6 hg6 hb6
      refine hKK _ _ ?_
      clear hKK KK
      have ho6 : Oth (fun k => v0.ownBlock = some k) wr w6 := Oth.of_grown hg6 fun k e => e
      have hty : TyR wr (fun k => v0.ownBlock = some k) := fun k t cs hk hrow => by
        obtain ⟨cs', hrow'⟩ := OwR.blk HR.out.out k hk
        exact (hrow.uniq hrow').1
      have Heds6 := hide (owe_oth HR.out.eds ho6 hty)
      have Hmks6 := hide (own_oth HR.out.mks ho6 hty)
      have Hout6 := hide hout6
      have Hb6 := hide (HR.out.low.trans hb6)
      have Hkl := hide hkl
      obtain ⟨Yk, hYk⟩ : ∃ z, z = Y0 + (p - X0) := ⟨_, rfl⟩
      obtain ⟨Zk, hZk⟩ : ∃ z, z = Z0 + (p - X0) := ⟨_, rfl⟩
      rw [← hYk, ← hZk]
      have HYk := hide hYk
      have HZk := hide hZk
      clear ho6 hty hout6 hg6 hb6 hkl hcn hpo hYs hYk hZk
      go_wp2
      refine wp_last (rg_rest _ _ _ _ _ _ _ _ _ _ _ _ _ _ _ _ _ _ _ _ _ _ _ _ _ _ _ _ _ _ _ _ _ _ _ _ _ _ _ _ _ _ _ _ _ _ _ _ _ _ _ _ _ _ _ _ _ _ _ _ _ _ _ _ _ _ _ _ _ _ _ _ _ _ _ _ _ _ _ _ _ _ _ _ _ _ _ _ _ _ _ _ _ _ _ _ _ _ _ _ _ _ _ _ _ _ _ _ _ _ _ _ _ _ _ _ _ _ _ _ _ _ _ _ _ _ _ _ _ _ _ _ _ _ _ _ _ _ _ _ _ _ _ _ _ _ _ _ _ _ _ _ _ _ _ _ _ _ _ _ _ _ _ _ _ _ _ _ _ _ _ _ _ _ _ _ _ _ _ _ _ _ _ _ _ _ _ _ _ _ _ _ _ _ _ _ _ _ _ _ _ _ _ _ _ _ _ _ _ _ _ _ _ _ _ _ _ _ _ _ _ _ _ _ _ _ _ _ _ _ _ _ _ _ _ _ _ _ _ _ _ _ _ _ _ _ _ _ _ _ _ _ _ _ _ _ _ _ _ _ _ _ _ _ _ _ _ (by rw [← HB24.out]; kernel_rfl) Ht.out Hsm.out Hb6.out HR.out.inv rfl Hz.out HYk.out HZk.out Hout6.out Heds6.out Hmks6.out HMk.out HR.out.use HNN.out hN2 hf HfC.out Hn1.out (by have := Hkl.out; have := Hcn.out; omega) ⟨Hno.out, Hna.out, Hnb.out⟩ ?_)
      intro y18b y19b y20b y21b y22b y23b y24b y109b y110b y111b y112b y113b y114b y115b y116b y117b y118b y119b y120b y121b y122b y123b y124b y125b y126b y127b y128b y129b y130b y131b y132b y133b y134b y135b y136b y137b y138b y139b y140b y141b y142b y143b y144b y145b y146b y147b y148b y149b y150b y151b y152b y153b y154b y155b y156b y157b y158b y159b y160b y161b y162b y163b y164b y165b y166b y167b y168b y169b y170b y171b y172b y173b y174b y175b y176b y177b y178b y179b y180b y181b y182b y183b y184b y185b y186b y187b y188b y189b y190b y191b y192b y193b y194b y195b y196b y197b y198b y199b y200b y201b y202b y203b y204b y205b y206b y207b y208b y209b y210b y211b y212b y213b y214b y215b y216b y217b y218b y219b y220b y221b y222b y223b y224b y225b y226b y227b y228b y229b y230b y231b y232b y233b y234b y235b y236b y237b y238b y239b y240b y241b y242b y243b y244b y245b y246b y247b y248b y249b y250b y251b y252b y253b y254b y255b y256b y257b y258b y259b y260b y261b y262b y263b y264b y265b y266b y267b y268b y269b y270b y271b y272b y273b y274b y275b y276b v7 w7 h1 h2 h3 h4
      have hnx : nxt a b s d e r = (s.keep a b p).add a b (clo d e r) := by
        unfold nxt
        rw [Hz.out.fr]
      rw [← hnx] at h1
      obtain ⟨Y2, hY2⟩ : ∃ z, z = Yk + M1 := ⟨_, rfl⟩
      obtain ⟨Z2, hZ2⟩ : ∃ z, z = Zk + M2 := ⟨_, rfl⟩
      rw [← hY2, ← hZ2]
      have hlen7 := OwR.lenV h1
      have hnl : (nxt a b s d e r).l.length ≤ s.l.length + 2 ∧ s.l.length + 1 ≤ (nxt a b s d e r).l.length := by
        rw [hnx, add_len']
        have := keep_len' a b s p
        have := keep_ge a b s p
        omega
      have hcl : (clr d e r).length ≤ r.length := grow_len _ r
      have hRO : RO w w7 o a b N (.slice A8 N c8) v9 v7 R t Y2 Z2 (V ++ clu d e r) (clr d e r) (nxt a b s d e r) (fun i => U i || inC (clu d e r) (el (D o a) (D o b) i)) := by
        have hz := Hz.out
        refine ⟨⟨?_, ?_, ?_⟩, HR.out.inv.next, ?_, h1, h2, h3, ?_, h4, ?_⟩
        · rw [HR.out.inv.next_x, hz.to]
        · rw [hnx]
          show (s.keep a b p).y + ((clo d e r).to - (clo d e r).fr + (clo d e r).m0) = _
          have e1 := hz.ky
          have e2 := hz.to
          have e3 := hz.fr
          have e4 := hz.m1
          have e5 := hz.pt
          have e6 := HYk.out
          omega
        · rw [hnx]
          show (s.keep a b p).z + ((clo d e r).to - (clo d e r).fr + (clo d e r).m1) = _
          have e1 := hz.kz
          have e2 := hz.to
          have e3 := hz.fr
          have e4 := hz.m2
          have e5 := hz.pt
          have e6 := HZk.out
          omega
        · rw [← HR.out.lp, loop_cons]; rfl
        · intro i hi
          rw [List.mem_append, ← HR.out.use i hi, ← inC_iff (T := clu d e r)]
          simp
        · have := Hcn.out
          omega
      have HRO := hide hRO
      have hlen0 := OwR.lenV HR.out.out
      have hcnt9 := hRO.cnt
      have Hfin := hide (show 2 * N + 1 - lenV v7 < 2 * N + 1 - lenV v0 by omega)
      clear h1 h2 h3 h4 hnx hY2 hZ2 hlen7 hnl hcl hRO hlen0 hcnt9
      go_wp2
      exact ⟨⟨t, Y2, Z2, v7, _, _, _, _, rfl, rfl, rfl, rfl, HRO⟩, Hfin.out⟩
end Go.Proofs.Ytghnieddokhagaa.Al
