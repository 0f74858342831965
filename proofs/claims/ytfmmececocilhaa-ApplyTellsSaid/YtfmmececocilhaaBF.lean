/-
  apply: do, run, Apply.
-/
import Derived.Test.YtfmmececocilhaaBC
import Derived.Test.YtfmmececocilhaaHD
import Derived.Test.YtfmmececocilhaaEV
import Derived.Test.YtfmmececocilhaaRegC
namespace Go.Proofs.Ytfmmececocilhaa.Ap
open Go Go.RowKit Kt Lw Li Df Hu

/-- what becomes of work: R, or it fails -/
def Post (R : Option (Ls × Ls)) (B g : Nat) (A : Option Addr) (c : Nat) (a : Ls) (y : Ending) (w : World) : Prop := match R with
  | some (r, out) => y = .returned (.tuple #[]) ∧ WkM w B g A c a (a.length - r.length) out ∧ r = a.drop (a.length - r.length)
  | none => y = .panicked (pn 6) ∧ FailM w g 6
theorem doL_step (r out : Ls) (x : List UInt8) (l : Ls) : doL r out (x :: l) = if sg x = 43 then doL r (out ++ [x.tail]) l else if r.head? = some x.tail then doL r.tail (if sg x = 45 then out else out ++ [x.tail]) l else none := rfl
theorem drop_head (a : Ls) (z : Nat) : (a.drop z).head? = a[z]? := by
  rw [List.head?_eq_getElem?, List.getElem?_drop, Nat.add_zero]
theorem gmem {l : Ls} {i : Nat} (h : i < l.length) : l.getD i [] ∈ l := by simp [List.getElem?_eq_getElem h]
theorem lines_at {l : Ls} {k : Nat} (hk : k < l.length) : l.drop k = l.getD k [] :: l.drop (k + 1) := by
  rw [List.drop_eq_getElem_cons hk, List.getD_eq_getElem?_getD, List.getElem?_eq_getElem hk]; rfl
set_option maxRecDepth 100000 in
set_option maxHeartbeats 4000000 in
theorem do_any (B g : Nat) (A : Option Addr) (c : Nat) (a : Ls) (z t : Nat) (out : Ls) (h : Hk) (A' : Option Addr) (c' : Nat) (w : World) (hw : WkM w B g A c a z out) (hv : Vs w (fun b => b < B) A' c' (texts h.lines))
    (ht : h.a = t) (hz : z ≤ t) (hn : a.length ≤ 1000000) (ho : out.length ≤ 100000000) (hl : h.lines.length ≤ 1000000) (hne : ∀ x ∈ h.lines, x ≠ []) :
    Calls Try.prog 36 #[.pointer (some ⟨g, 0, none⟩), .agg #[.int .i64 h.a, .int .i64 h.an, .int .i64 h.b, .int .i64 h.bn, .slice A' h.lines.length c']] w fun y w' =>
      Post (if t ≤ a.length then doL (a.drop t) (out ++ (a.drop z).take (t - z)) h.lines else none) B g A c a y w' ∧ Mv B w w' := by
  have Hw := hide hw
  have Hv := hide hv
  have Hne := hide hne
  obtain ⟨nh, hnh⟩ : ∃ n, n = h.lines.length := ⟨_, rfl⟩
  have Hnh := hide hnh
  rw [← hnh] at hl ⊢
  rw [ht]
  obtain ⟨w1, hw1⟩ : ∃ w1, w1 = w.alloc (.cells #[.int .i64 (t : Int), .int .i64 h.an, .int .i64 h.b, .int .i64 h.bn, .slice A' nh c'] tH) := ⟨_, rfl⟩
  have hb1 : Below w.heap.size w w1 := by rw [hw1]; exact (Below.refl _ w).alloc (Nat.le_refl _) _
  obtain ⟨q, hq⟩ : ∃ q, q = w.heap.size := ⟨_, rfl⟩
  have hrow : Row w1 q tH [.int .i64 (t : Int), .int .i64 h.an, .int .i64 h.b, .int .i64 h.bn, .slice A' nh c'] := by rw [hw1, hq]; exact Row.fresh w tH _
  have Hb1 := hide hb1
  have Hw1 := hide (hw.keep hb1)
  have c0 := hrow.cell 0
  have c4 := hrow.cell 4
  simp only [List.getElem?_cons_zero, List.getElem?_cons_succ] at c0 c4
  clear hw hv hne hnh ht hrow hb1
  go_enter Try.func36, Try.ntmps36
  by_cases hta : t ≤ a.length
  · rw [if_pos hta]
    have HK := hide (keep_yes B g A c a z t out w1 Hw1.out hz hta hn (by omega))
    have hol : (out ++ (a.drop z).take (t - z)).length ≤ 101000000 := by rw [List.length_append, List.length_take, List.length_drop]; omega
    generalize out ++ (a.drop z).take (t - z) = out1 at *
    obtain ⟨R, hR⟩ : ∃ R, R = doL (a.drop t) out1 h.lines := ⟨_, rfl⟩
    rw [← hR]
    have HR := hide hR
    have Hq := hide (show Row w1 q tH [.int .i64 (t : Int), .int .i64 h.an, .int .i64 h.b, .int .i64 h.bn, .slice A' nh c'] by rw [hw1, hq]; exact Row.fresh w tH _)
    have Hb1' := hide (Mv.keep Hb1.out Hw.out.base)
    clear hR
    go_wp2_with fail
    rw [← hw1, ← hq]
    clear hw1 hq
    refine HK.out.mono ?_
    rintro y w2 ⟨rfl, hk2, hb2⟩
    have hrow2 := hb2.far _ _ _ Hq.out (by decide) (by decide)
    have d4 := hrow2.cell 4
    simp only [List.getElem?_cons_zero, List.getElem?_cons_succ] at d4
    have Hk2 := hide hk2
    have Hb2 := hide (Hb1'.out.trans hb2)
    clear c0 c4 hrow2 hk2 hb2 HK Hw1 Hb1 Hb1' Hq
    go_wp2
    go_loopw [15] (fun i wr => ∃ (k z' : Nat) (out' : Ls), k ≤ nh ∧ i = .int .i64 k ∧ Hid (R = doL (a.drop z') out' (h.lines.drop k)) ∧ z' ≤ a.length ∧ out'.length ≤ 101000000 + k ∧ Hid (WkM wr B g A c a z' out') ∧ Hid (Mv B w wr)) (fun i _ => nh - (intOf i).toNat)
    case atStart => exact ⟨0, t, out1, Nat.zero_le _, rfl, hide HR.out, hta, by omega, hide Hk2.out, hide Hb2.out⟩
    case round =>
      obtain ⟨k, z', out', hk, rfl, HRk, hz', hol', Hkr, Hbr⟩ := hrel
      by_cases hlt : k < nh
      · have hlt' : k < h.lines.length := by rw [← Hnh.out]; exact hlt
        obtain ⟨bl, ol, hA, ck⟩ := (Lw.Vs.bound (Lw.Vs.move Hv.out fun b hb _ => Hbr.out.below.block b hb)).text (Below.refl _ wr) (k := k) hlt'
        subst hA
        have HRx := hide (HRk.out.trans (by rw [lines_at hlt', doL_step, drop_head]))
        have hxne := Hne.out _ (gmem hlt')
        obtain ⟨x, hx⟩ : ∃ x, x = h.lines.getD k [] := ⟨_, rfl⟩
        rw [← hx] at ck HRx hxne
        have hsz := Hu.size_of x
        have hx1 : 1 ≤ x.length := List.length_pos_iff.2 hxne
        have hg := Hu.get_at x 0 (by rw [hsz]; exact hx1)
        rw [sg_get] at hg
        have hcut := cut_tail x.tail (sg x)
        have hxs : sg x :: x.tail = x := by
          cases x with
          | nil => exact absurd rfl hxne
          | cons b t => rfl
        rw [hxs] at hcut
        obtain ⟨s, hs⟩ : ∃ s, s = sg x := ⟨_, rfl⟩
        rw [← hs] at HRx hg
        obtain ⟨y, hy⟩ : ∃ y, y = x.tail := ⟨_, rfl⟩
        rw [← hy] at HRx hcut
        clear hx hs hy hxs hxne hlt'
        by_cases h43 : s = 43
        · subst h43
          have HR' := hide (HRx.out.trans (if_pos rfl))
          clear HRx HRk
          have e1 : ((43 : Int) != 43) = false := by decide
          go_wp2_with fail
          go_quiet (fail)
          obtain ⟨w5, hw5⟩ : ∃ w5, w5 = wr.drewN nq := ⟨_, rfl⟩
          have Hk5 := hide (show WkM w5 B g A c a z' out' by rw [hw5]; exact Hkr.out.drewN nq)
          have Hb5 := hide (show Mv B w w5 by rw [hw5]; exact Hbr.out.trans (Mv.keep (below_drewN (Below.refl _ wr) nq) Hkr.out.base))
          rw [← hw5]
          clear hw5
          obtain ⟨v, hr5, ho5⟩ := Hk5.out.ex
          obtain ⟨Av, nv, cv, rfl⟩ := owt_form ho5
          have d2 := hr5.cell 2
          simp only [List.getElem?_cons_zero, List.getElem?_cons_succ] at d2
          have Hr5 := hide hr5
          have Ho5 := hide ho5
          clear hr5 ho5
          go_wp2_with (refine wpList_pushT rfl (.tmp 34) (.tmp 36) rfl B w5 _ _ y _ rfl rfl rfl Ho5.out (by omega) (Below.refl _ _) Hk5.out.base ?_
                       intro v6 w6 hown6 hb6 hg6 _
                       have hr6 := Hr5.out.grown hg6 (fun e => row_ne Hr5.out tW_ne Ho5.out g e.symm rfl)
                       have e2 := hr6.cell 2
                       have g2 := hr6.free 2
                       simp only [List.getElem?_cons_zero, List.getElem?_cons_succ] at e2
                       obtain ⟨A6, n6, c6, rfl⟩ := owt_form hown6
                       have Hp := hide (Hk5.out.pushed Hr5.out Ho5.out hown6 hb6 hg6)
                       clear hr6 hown6 hb6 hg6)
          exact ⟨⟨k + 1, z', out' ++ [y], by omega, by go_num, hide HR'.out, by omega, by rw [List.length_append, List.length_singleton]; omega, hide Hp.out.1, hide (Hb5.out.trans Hp.out.2)⟩, by simp [intOf]; omega⟩
        · have h43' : (((s.toNat : Int)) != 43) = true := by
            rw [bne_iff_ne]
            intro e
            exact h43 (UInt8.toNat_inj.1 (by simp; omega))
          have hRx2 := HRx.out.trans (if_neg h43)
          have HRx2 := hide hRx2
          clear HRx HRk hRx2
          go_wp2_with fail
          go_quiet (fail)
          obtain ⟨w5, hw5⟩ : ∃ w5, w5 = wr.drewN nq := ⟨_, rfl⟩
          have Hk5 := hide (show WkM w5 B g A c a z' out' by rw [hw5]; exact Hkr.out.drewN nq)
          have Hb5 := hide (show Mv B w w5 by rw [hw5]; exact Hbr.out.trans (Mv.keep (below_drewN (Below.refl _ wr) nq) Hkr.out.base))
          rw [← hw5]
          clear hw5
          by_cases hay : a[z']? = some y
          · have HTk := hide (take_yes B g A c a z' out' y w5 Hk5.out hay hn)
            have hRx3 := HRx2.out.trans (if_pos hay)
            rw [List.tail_drop] at hRx3
            have HRx3 := hide hRx3
            have hz2 : z' + 1 ≤ a.length := (List.getElem?_eq_some_iff.1 hay).1
            clear HRx2 hRx3 hay
            go_wp2_with fail
            refine HTk.out.mono ?_
            rintro y7 w7 ⟨rfl, hk7, hb7⟩
            have Hk7 := hide hk7
            have Hb7 := hide (Hb5.out.trans hb7)
            clear hk7 hb7 Hk5 Hb5 HTk
            by_cases h45 : s = 45
            · subst h45
              have HR' := hide (HRx3.out.trans (by rw [if_pos rfl]))
              clear HRx3
              go_wp2
              exact ⟨⟨k + 1, z' + 1, out', by omega, by go_num, hide HR'.out, hz2, by omega, hide Hk7.out, hide Hb7.out⟩, by simp [intOf]; omega⟩
            · have h45' : (((s.toNat : Int)) != 45) = true := by
                rw [bne_iff_ne]
                intro e
                exact h45 (UInt8.toNat_inj.1 (by simp; omega))
              have HR' := hide (HRx3.out.trans (by rw [if_neg h45]))
              clear HRx3 h43 h45
              obtain ⟨w5', hw5⟩ : ∃ w5', w5' = w7 := ⟨_, rfl⟩
              rw [← hw5] at Hk7 Hb7 ⊢
              clear hw5
              obtain ⟨v, hr5, ho5⟩ := Hk7.out.ex
              obtain ⟨Av, nv, cv, rfl⟩ := owt_form ho5
              have d2 := hr5.cell 2
              simp only [List.getElem?_cons_zero, List.getElem?_cons_succ] at d2
              have Hr5 := hide hr5
              have Ho5 := hide ho5
              clear hr5 ho5
              go_wp2_with (refine wpList_pushT rfl (.tmp 34) (.tmp 36) rfl B w5' _ _ y _ rfl rfl rfl Ho5.out (by omega) (Below.refl _ _) Hk7.out.base ?_
                           intro v6 w6 hown6 hb6 hg6 _
                           have hr6 := Hr5.out.grown hg6 (fun e => row_ne Hr5.out tW_ne Ho5.out g e.symm rfl)
                           have e2 := hr6.cell 2
                           have g2 := hr6.free 2
                           simp only [List.getElem?_cons_zero, List.getElem?_cons_succ] at e2
                           obtain ⟨A6, n6, c6, rfl⟩ := owt_form hown6
                           have Hp := hide (Hk7.out.pushed Hr5.out Ho5.out hown6 hb6 hg6)
                           clear hr6 hown6 hb6 hg6)
              exact ⟨⟨k + 1, (z' + 1), out' ++ [y], by omega, by go_num, hide HR'.out, by omega, by rw [List.length_append, List.length_singleton]; omega, hide Hp.out.1, hide (Hb7.out.trans Hp.out.2)⟩, by simp [intOf]; omega⟩
          · have HTk := hide (take_no B g A c a z' out' y w5 Hk5.out hay hz' hn)
            have HRx3 := hide (HRx2.out.trans (if_neg hay))
            clear HRx2 hay
            go_wp2_with fail
            refine HTk.out.mono ?_
            rintro y7 w7 ⟨rfl, hf7, hb7⟩
            have Hf7 := hide hf7
            have Hb7 := hide (Hb5.out.trans hb7)
            clear hf7 hb7 Hk5 Hb5 HTk
            go_wp2
            exact ⟨rfl, by rw [HRx3.out]; exact ⟨rfl, Hf7.out⟩, Hb7.out⟩
      · obtain rfl : k = nh := by omega
        have HF := hide (show R = some (a.drop z', out') by
          rw [HRk.out, Hnh.out, List.drop_length]; rfl)
        go_wp2
        refine bodyPost_end (results_none rfl _ _ _) rfl ?_
        refine ⟨?_, Hbr.out⟩
        rw [HF.out]
        have e : a.length - (a.drop z').length = z' := by rw [List.length_drop]; omega
        unfold Post
        simp only
        rw [e]
        exact ⟨trivial, Hkr.out, rfl⟩
  · rw [if_neg hta]
    have HK := hide (keep_no B g A c a z out t w1 Hw1.out (by omega) hn)
    have Hb1' := hide (Mv.keep Hb1.out Hw.out.base)
    go_wp2_with fail
    rw [← hw1]
    refine HK.out.mono ?_
    rintro y w2 ⟨rfl, hf2, hb2⟩
    have Hf2 := hide hf2
    have Hb2 := hide (Hb1'.out.trans hb2)
    clear c0 c4 hf2 hb2 hw1
    go_wp2
    exact ⟨rfl, ⟨rfl, Hf2.out⟩, Hb2.out⟩
end Go.Proofs.Ytfmmececocilhaa.Ap
namespace Go.Proofs.Ytfmmececocilhaa.Ap
open Go Go.RowKit Kt Lw Li Df Hu

abbrev tWp : TypeId := 55
set_option maxRecDepth 100000 in
set_option maxHeartbeats 1000000 in
theorem catch_panicking (q g : Nat) (x0 x1 x2 x3 : Value) (u : TypeId) (pv : Value) (older : List PanicEntry) (w : World) (hq : Row w q tWp [.pointer (some ⟨g, 0, none⟩)]) (hg : Row w g tW [x0, x1, x2, x3]) :
    CallsD Try.prog 34 #[.pointer (some ⟨q, 0, none⟩)] (.panicking ({ v := .iface u pv, recovered := false } :: older)) w fun e u' w' =>
      e = .returned (.tuple #[]) ∧ u' = .panicking ({ v := .iface u pv, recovered := true } :: older) ∧ w' = w.setCell ⟨g, 2, none⟩ (.slice none 0 0) := by
  have c0 := hq.cell 0
  have d2 := hg.cell 2
  have f2 := hg.free 2
  simp only [List.getElem?_cons_zero, List.getElem?_cons_succ] at c0 d2
  refine callsD_of_wpS Try.func34 rfl fun c₀ cs hu => ?_
  apply wpS_seq
  apply wpS_region
  simp [wpOpsS, go_sem, recoverD, hu, Try.ntmps34, Exit.thenS]
  refine wpS_cond (t := true) (by simp [Act.eval, Array.replicate]) ?_
  simp only [if_true]
  apply wpS_region
  simp [wpOpsS, go_sem, c0, d2, f2, bodyPostS, results, Try.results34]

theorem catch_idle (p : Addr) (w : World) :
    CallsD Try.prog 34 #[.pointer (some p)] .returning w fun e u' w' => e = .returned (.tuple #[]) ∧ u' = .returning ∧ w' = w := by
  refine callsD_of_wpS Try.func34 rfl fun c₀ cs hu => ?_
  apply wpS_seq
  apply wpS_region
  simp [wpOpsS, go_sem, recoverD, hu, Try.ntmps34, Exit.thenS]
  refine wpS_cond (t := false) (by simp [Act.eval, Array.replicate]) ?_
  simp only [Bool.false_eq_true, if_false]
  refine wpS_of_wp (wp_skip ?_)
  cases c₀
  simp_all [bodyPostS, results, Try.results34]
end Go.Proofs.Ytfmmececocilhaa.Ap
namespace Go.Proofs.Ytfmmececocilhaa.Ap
open Go Go.RowKit Kt Lw Li Df Hu

/-- one hunk behind the other -/
theorem doH_step (a out : Ls) (z t : Nat) (h : Hk) (T : List Hk) (ht : h.a = t) (hz : z ≤ t) (hza : z ≤ a.length) :
    doH z (a.drop z) out (h :: T) = match (if t ≤ a.length then doL (a.drop t) (out ++ (a.drop z).take (t - z)) h.lines else none) with
      | none => none
      | some (r', out') => doH (t + (oldL h.lines).length) r' out' T := by
  have e1 : h.a.toNat = t := by omega
  rw [doH, e1, List.drop_drop, show z + (t - z) = t by omega, List.length_drop]
  by_cases hta : t ≤ a.length
  · rw [if_pos hta, if_pos (by omega)]
    cases doL (a.drop t) (out ++ (a.drop z).take (t - z)) h.lines <;> rfl
  · rw [if_neg hta, if_neg (by omega)]
def RunQ (a : Ls) (L : List Hk) (B g : Nat) (w : World) : Prop := ∃ x0 x1 v, Row w g tW [x0, x1, v, .int .i64 ((appl a L).2 : Int)] ∧ OwT w B tS v (appl a L).1
theorem FailM.runQ {w : World} {B g e : Nat} {a : Ls} {L : List Hk} (h : FailM w g e) (ha : appl a L = ([], e)) : RunQ a L B g (w.setCell ⟨g, 2, none⟩ (.slice none 0 0)) := by
  obtain ⟨x0, x1, x2, hr⟩ := h
  refine ⟨x0, x1, .slice none 0 0, ?_, ?_⟩
  · rw [ha]; exact hr.put 2 _
  · rw [ha]; exact OwT.nil _ _ _
set_option maxRecDepth 100000 in
set_option maxHeartbeats 4000000 in
theorem run_any (g : Nat) (A A2 : Option Addr) (c c2 : Nat) (a : Ls) (L : List Hk) (w0 w : World) (hs : Hks w0 A2 c2 L) (hb0 : Below w0.heap.size w0 w) (hw : WkM w w0.heap.size g A c a 0 []) (hn : L.length ≤ 500) (hb : ∀ h ∈ L, Sm h) (ha : a.length ≤ 10000) :
    Calls Try.prog 23 #[.pointer (some ⟨g, 0, none⟩), .slice A2 L.length c2] w fun y w' => y = .returned (.tuple #[]) ∧ RunQ a L w0.heap.size g w' ∧ Below w0.heap.size w w' := by
  have hmf : ∀ (fn : Fn) (first cap : Array Value) (w : World), (Instr.makeFunc fn first cap).run Try.prog w = .ok (.func fn first cap) w := fun _ _ _ _ => rfl
  obtain ⟨w1, hw1⟩ : ∃ w1, w1 = w.alloc (.cells #[.pointer (some ⟨g, 0, none⟩)] tWp) := ⟨_, rfl⟩
  obtain ⟨q, hq⟩ : ∃ q, q = w.heap.size := ⟨_, rfl⟩
  have hb1 : Below w.heap.size w w1 := by rw [hw1]; exact (Below.refl _ w).alloc (Nat.le_refl _) _
  have hrow : Row w1 q tWp [.pointer (some ⟨g, 0, none⟩)] := by rw [hw1, hq]; exact Row.fresh w tWp _
  have Hw1 := hide (hw.keep hb1)
  have Hm1 := hide (Mv.keep hb1 hw.base)
  have Hb1 := hide (hb0.trans (hb1.mono hw.base))
  have Hq1 := hide hrow
  have Hs := hide hs
  have Hsm := hide hb
  have HR := hide (fun w' (hb' : Below w0.heap.size w0 w') => aright_any L A2 c2 w' (hs.keep hb') (by omega) hb)
  obtain ⟨N, hN⟩ : ∃ N, N = L.length := ⟨_, rfl⟩
  rw [← hN] at hn HR ⊢
  have HN := hide hN
  have Hb0 := hide hb0
  have Hbase := hide hw.base
  have Hg := hide hw.at_g
  clear hs hb hw hb0 hb1 hrow hN
  go_enter_defers Try.func23, Try.ntmps23
  go_wp2_with fail
  rw [← hw1, ← hq]
  clear hw1 hq
  refine (HR.out w1 Hb1.out).mono ?_
  rintro y w2 ⟨rfl, hb2⟩
  have Hw2 := hide (Hw1.out.keep hb2)
  have Hm2 := hide (Hm1.out.trans (Mv.keep hb2 Hw1.out.base))
  have Hq2 := hide (Hq1.out.below hb2 Hq1.out.lt)
  clear hb2 HR Hw1 Hm1 Hq1 Hb1
  cases hok : okL 0 0 L with
  | false =>
    have hap : appl a L = ([], 3) := by unfold appl; rw [if_neg (by rw [hok]; simp)]
    have Hap := hide hap
    have c0 := Hq2.out.cell 0
    simp only [List.getElem?_cons_zero] at c0
    obtain ⟨v, hr2, _⟩ := Hw2.out.ex
    have HF := hide (fail_any g _ _ _ 0 3 w2 hr2)
    clear hap hok hr2
    go_wp2_with fail
    refine HF.out.mono ?_
    rintro y w3 ⟨rfl, rfl⟩
    have h3 := Hw2.out.fail 3
    have Hf3 := hide h3.1
    have Hm3 := hide (Hm2.out.trans h3.2)
    have Hq3 := hide (h3.2.far _ _ _ Hq2.out (by decide) (by decide))
    clear h3 c0 HF
    generalize w2.setCell ⟨g, 3, none⟩ (.int .i64 3) = w3 at *
    go_wp2
    obtain ⟨x0, x1, x2, hr3⟩ := Hf3.out
    have Hr3 := hide hr3
    clear hr3
    unfold pn
    refine leaves_cons (f := 34) (args := #[.pointer (some ⟨q, 0, none⟩)]) (by simp) (by simp [go_sem]) ?_
    refine (catch_panicking q g x0 x1 x2 _ _ _ [] w3 Hq3.out Hr3.out).mono ?_
    rintro e u' w'' ⟨rfl, rfl, rfl⟩
    have hQ := Hf3.out.runQ (B := w0.heap.size) Hap.out
    have hM := Hm3.out.below.trans (below_put (Below.refl _ w3) Hg.out (.slice none 0 0) (i := 2))
    simp [Leaves, settle, results, Try.results23, go_sem]
    exact ⟨hQ, hM⟩
  | true =>
    have Happ := hide (show appl a L = match doH 0 a [] L with | some x => (x, 0) | none => ([], 6) by unfold appl; rw [if_pos hok]; rfl)
    have Hok := hide hok
    clear hok
    go_wp2
    go_loopw [14] (fun i wr => ∃ (k z : Nat) (m : Int) (out : Ls), k ≤ N ∧ i = .int .i64 k ∧ z ≤ a.length ∧ out.length ≤ 200000 * k ∧ Hid (okL z m (L.drop k) = true) ∧ Hid (doH 0 a [] L = doH z (a.drop z) out (L.drop k)) ∧ Hid (WkM wr w0.heap.size g A c a z out) ∧ Hid (Mv w0.heap.size w wr) ∧ Hid (Row wr q tWp [.pointer (some ⟨g, 0, none⟩)])) (fun i _ => N - (intOf i).toNat)
    case atStart => exact ⟨0, 0, 0, [], Nat.zero_le _, rfl, Nat.zero_le _, Nat.le_refl _, hide Hok.out, hide rfl, hide Hw2.out, hide Hm2.out, hide Hq2.out⟩
    case round =>
      obtain ⟨k, z, m, out, hk, rfl, hza, hol, Hokk, HD, Hwr, Hmr, Hqr⟩ := hrel
      have Hbr := hide (Hb0.out.trans Hmr.out.below)
      have q0 := Hqr.out.cell 0
      simp only [List.getElem?_cons_zero] at q0
      by_cases hlt : k < N
      · obtain ⟨b, o, h, A', c', hA, hke, ⟨c0, c1, c2', c3, c4⟩, hv⟩ := Hs.out.at Hbr.out (k := k) (by have := HN.out; omega)
        subst hA
        have hsm := Hsm.out h (List.mem_of_getElem? hke)
        have hokk := Hokk.out
        have hD := HD.out
        rw [drop_cons hke] at hokk hD
        obtain ⟨⟨hr, _, hze⟩, hok'⟩ := okL_cons.1 hokk
        obtain ⟨k1, k2, k3, _⟩ := right_facts hr
        obtain ⟨t, ht⟩ := Int.eq_ofNat_of_zero_le k3
        have hzt : z ≤ t := by omega
        rw [doH_step a out z t h _ ht hzt hza] at hD
        have hne : ∀ x ∈ h.lines, x ≠ [] := by
          have key : ∀ (l : Ls) (p : Bool), okF p l = true → ∀ x ∈ l, x ≠ [] := by
            intro l
            induction l with
            | nil => intro p _ x hx; cases hx
            | cons y l ih =>
              intro p ho x hx
              obtain ⟨⟨h1, _⟩, h3⟩ := (okF_cons p y l).1 ho
              rcases List.mem_cons.1 hx with rfl | hx
              · rintro rfl
                revert h1; decide
              · exact ih _ h3 x hx
          exact key _ _ ((hright_iff h).1 hr).1
        obtain ⟨w4, hw4⟩ : ∃ w4, w4 = wr.alloc (.cells #[.int .i64 h.a, .int .i64 h.an, .int .i64 h.b, .int .i64 h.bn, .slice A' h.lines.length c'] tH) := ⟨_, rfl⟩
        have hb4 : Below wr.heap.size wr w4 := by rw [hw4]; exact (Below.refl _ wr).alloc (Nat.le_refl _) _
        obtain ⟨p, hp⟩ : ∃ p, p = wr.heap.size := ⟨_, rfl⟩
        have hrow4 : Row w4 p tH [.int .i64 h.a, .int .i64 h.an, .int .i64 h.b, .int .i64 h.bn, .slice A' h.lines.length c'] := by rw [hw4, hp]; exact Row.fresh wr tH _
        have Hm4 := hide (Hmr.out.trans (Mv.keep hb4 Hwr.out.base))
        have Hw4 := hide (Hwr.out.keep hb4)
        have hq4 := Hqr.out.below hb4 Hqr.out.lt
        have Hq4 := hide hq4
        have q4 := hq4.cell 0
        simp only [List.getElem?_cons_zero] at q4
        rw [hw4] at q4
        have HDo := hide (do_any w0.heap.size g A c a z t out h A' c' w4 Hw4.out (Lw.Vs.move hv fun b hb _ => (Hb0.out.trans Hm4.out.below).block b hb) ht hzt (by omega) (by omega) (by have := hsm.2.2.2.2; omega) hne)
        have hRl : ∀ r' out', (if t ≤ a.length then doL (a.drop t) (out ++ (a.drop z).take (t - z)) h.lines else none) = some (r', out') → a.length - r'.length = t + (oldL h.lines).length ∧ t + (oldL h.lines).length ≤ a.length ∧ out'.length ≤ out.length + 110000 := by
          intro r' out' he
          split at he
          · obtain ⟨d1, d2⟩ := doL_some _ _ _ _ _ he
            have d3 := congrArg List.length d1
            rw [List.length_drop, List.length_append] at d3
            have d4 : (newL h.lines).length ≤ h.lines.length := by unfold newL; rw [List.length_map]; exact List.length_filter_le _ _
            have := hsm.2.2.2.2
            refine ⟨by omega, by omega, ?_⟩
            rw [d2, List.length_append, List.length_append, List.length_take]
            omega
          · cases he
        have HRl := hide hRl
        have HD2 := hide hD
        have Hok2 := hide hok'
        have Hk1 := hide (show ((t + (oldL h.lines).length : Nat) : Int) = h.a + h.an by omega)
        obtain ⟨R, hR⟩ : ∃ R, R = (if t ≤ a.length then doL (a.drop t) (out ++ (a.drop z).take (t - z)) h.lines else none) := ⟨_, rfl⟩
        rw [← hR] at HDo HRl HD2
        clear hR hRl hD hok' hokk hr hze k1 k2 k3 ht hke hsm hne hv hb4 hrow4 hq4 HD Hokk
        go_wp2_with fail
        rw [← hw4, ← hp]
        clear hw4 hp c0 c1 c2' c3 c4 q0 q4
        refine HDo.out.mono ?_
        rintro y w5 ⟨hpost, hb5⟩
        have Hm5 := hide (Hm4.out.trans hb5)
        have Hq5 := hide (hb5.far _ _ _ Hq4.out (by decide) (by decide))
        clear hb5 HDo Hw4 Hm4 Hq4
        cases hR : R with
        | none =>
          rw [hR] at hpost HD2
          obtain ⟨rfl, hf5⟩ := hpost
          have Hap := hide (show appl a L = ([], 6) by rw [Happ.out, HD2.out])
          have Hf3 := hide hf5
          have Hm3 := hide Hm5.out
          have Hq3 := hide Hq5.out
          obtain ⟨w3, hw3⟩ : ∃ w3, w3 = w5 := ⟨_, rfl⟩
          rw [← hw3] at Hf3 Hm3 Hq3 ⊢
          clear hf5 Hm5 Hq5 hw3 hR HRl HD2
          go_wp2
          obtain ⟨x0, x1, x2, hr3⟩ := Hf3.out
          have Hr3 := hide hr3
          clear hr3
          unfold pn
          refine leaves_cons (f := 34) (args := #[.pointer (some ⟨q, 0, none⟩)]) (by simp) (by simp [go_sem]) ?_
          refine (catch_panicking q g x0 x1 x2 _ _ _ [] w3 Hq3.out Hr3.out).mono ?_
          rintro e u' w'' ⟨rfl, rfl, rfl⟩
          have hQ := Hf3.out.runQ (B := w0.heap.size) Hap.out
          have hM := Hm3.out.below.trans (below_put (Below.refl _ w3) Hg.out (.slice none 0 0) (i := 2))
          simp [Leaves, settle, results, Try.results23, go_sem]
          exact ⟨hQ, hM⟩
        | some rr =>
          obtain ⟨r', out'⟩ := rr
          rw [hR] at hpost HD2 HRl
          obtain ⟨rfl, hk5, hr5⟩ := hpost
          obtain ⟨f1, f2, f3⟩ := HRl.out r' out' rfl
          rw [f1] at hk5 hr5
          have Hk5 := hide hk5
          have HD5 := hide (show doH 0 a [] L = doH (t + (oldL h.lines).length) (a.drop (t + (oldL h.lines).length)) out' (L.drop (k + 1)) by rw [HD2.out]; simp only; rw [← hr5])
          have Hok5 := hide (show okL ((t + (oldL h.lines).length : Nat) : Int) (m + (h.bn - h.an)) (L.drop (k + 1)) = true by rw [Hk1.out]; exact Hok2.out)
          obtain ⟨z2, hz2⟩ : ∃ z2, z2 = t + (oldL h.lines).length := ⟨_, rfl⟩
          rw [← hz2] at Hk5 HD5 Hok5 f2
          obtain ⟨m2, hm2⟩ : ∃ m2, m2 = m + (h.bn - h.an) := ⟨_, rfl⟩
          rw [← hm2] at Hok5
          clear hk5 hr5 f1 hR HRl HD2 Hok2 Hk1 hz2 hm2
          go_wp2
          exact ⟨⟨k + 1, z2, m2, out', by omega, by go_num, f2, by omega, hide Hok5.out, hide HD5.out, hide Hk5.out, hide Hm5.out, hide Hq5.out⟩, by simp [intOf]; omega⟩
      · obtain rfl : k = N := by omega
        have Hap := hide (show appl a L = (out ++ a.drop z, 0) by rw [Happ.out, HD.out, HN.out, List.drop_length]; rfl)
        have Hke := hide (keep_yes w0.heap.size g A c a z a.length out wr.drew (Hwr.out.keep (Below.refl _ wr).drew) hza (Nat.le_refl _) (by omega) (by omega))
        have hXe : (a.drop z).take (a.length - z) = a.drop z := List.take_of_length_le (by rw [List.length_drop]; exact Nat.le_refl _)
        rw [hXe] at Hke
        obtain ⟨v, hr5, _⟩ := Hwr.out.ex
        have d0 := hr5.cell 0
        simp only [List.getElem?_cons_zero] at d0
        have Hmd := hide (Hmr.out.trans (Mv.keep (Below.refl _ wr).drew Hwr.out.base))
        have Hqd := hide Hqr.out.drew
        obtain ⟨M, hM⟩ : ∃ M, M = a.length := ⟨_, rfl⟩
        have Hb3 := hide (show M ≤ 10000 by omega)
        rw [← hM] at d0 Hke
        clear hr5 hXe hza hM
        go_wp2
        refine Rc.wp_region_ord (fun w' => w'.cell? ⟨q, 0, none⟩ = some (.pointer (some ⟨g, 0, none⟩)) ∧ w'.cell? ⟨g, 0, none⟩ = some (.slice A M c)) [(0, true), (1, true), (2, true), (3, true), (4, true), (5, true), (6, false)] (by kernel_rfl) (by kernel_rfl) ?_
        simp only [Rg.pick, List.map_cons, List.map_nil, List.getD_cons_zero, List.getD_cons_succ]
        iterate 6 (refine Rc.ord_quiet (v := ?_) rfl (fun w' hS => ?_) ⟨q0, d0⟩ ?_; rotate_left; (obtain ⟨s0, s1⟩ := hS; go_simp; with_reducible rfl); simp only [Act.put, List.setIfInBounds_toArray, List.set_cons_succ, List.set_cons_zero])
        refine Rc.ord_loud rfl (fun K hK => ?_)
        go_simp
        refine Hke.out.mono ?_
        rintro y w5 ⟨rfl, hk5, hb5⟩
        refine hK _ _ (fun hf => absurd (show Rc.sink _ 6 = true from by kernel_rfl) (by rw [hf]; decide)) ?_
        clear hK K
        refine Rc.ord_nil ?_
        have hQ : RunQ a L w0.heap.size g w5 := by
          obtain ⟨v5, h1, h2⟩ := hk5.ex
          exact ⟨_, _, v5, by rw [Hap.out]; exact h1, by rw [Hap.out]; exact h2⟩
        have HQ := hide hQ
        have Hm5 := hide (Hmd.out.trans hb5)
        clear hk5 hb5 hQ q0 d0 Hke
        go_wp2
        refine leaves_cons (f := 34) (args := #[.pointer (some ⟨q, 0, none⟩)]) (by simp) (by simp [go_sem]) ?_
        refine (catch_idle ⟨q, 0, none⟩ w5).mono ?_
        rintro e u' w'' ⟨rfl, rfl, rfl⟩
        have hQ := HQ.out
        have hM := Hm5.out.below
        simp [Leaves, settle, results, Try.results23, go_sem]
        exact ⟨hQ, hM⟩
end Go.Proofs.Ytfmmececocilhaa.Ap
namespace Go.Proofs.Ytfmmececocilhaa.Ap
open Go Go.RowKit Kt Lw Li Df Hu

set_option maxRecDepth 100000 in
set_option maxHeartbeats 2000000 in
theorem apply_any (a : Ls) (L : List Hk) (A A2 : Option Addr) (c c2 : Nat) (P : Nat → Prop) (w : World) (hs : Vs w P A c (texts a)) (hk : Hks w A2 c2 L) (hn : L.length ≤ 500) (hb : ∀ h ∈ L, Sm h) (ha : a.length ≤ 10000) :
    Calls Try.prog 12 #[.slice A a.length c, .slice A2 L.length c2] w fun y w' => ∃ v, y = .returned (.tuple #[v, .int .i64 ((appl a L).2 : Int)]) ∧ OwT w' w.heap.size tS v (appl a L).1 ∧ Below w.heap.size w w' := by
  obtain ⟨w1, hw1⟩ : ∃ w1, w1 = w.alloc (.cells #[.slice A a.length c, .int .i64 0, .slice none 0 0, .int .i64 0] tW) := ⟨_, rfl⟩
  obtain ⟨g, hg⟩ : ∃ g, g = w.heap.size := ⟨_, rfl⟩
  have hb1 : Below w.heap.size w w1 := by rw [hw1]; exact (Below.refl _ w).alloc (Nat.le_refl _) _
  have hrow : Row w1 g tW [.slice A a.length c, .int .i64 0, .slice none 0 0, .int .i64 0] := by rw [hw1, hg]; exact Row.fresh w tW _
  have hwk : WkM w1 w.heap.size g A c a 0 [] := ⟨⟨_, hrow, OwT.nil _ _ _⟩, Lw.Vs.below hs.bound hb1, by omega, hb1.size⟩
  have HRun := hide (run_any g A A2 c c2 a L w w1 hk hb1 hwk hn hb ha)
  have Hb1 := hide hb1
  obtain ⟨N, hN⟩ : ∃ N, N = L.length := ⟨_, rfl⟩
  rw [← hN] at HRun ⊢
  clear hs hk hn hb ha hb1 hrow hwk hN
  go_enter Try.func12, Try.ntmps12
  go_wp2_with fail
  rw [← hw1, ← hg]
  refine HRun.out.mono ?_
  rintro y w2 ⟨rfl, hq, hb2⟩
  obtain ⟨x0, x1, v, hr2, hv⟩ := hq
  obtain ⟨Av, nv, cv, rfl⟩ := owt_form hv
  have d2 := hr2.cell 2
  have d3 := hr2.cell 3
  simp only [List.getElem?_cons_zero, List.getElem?_cons_succ] at d2 d3
  have Hv := hide hv
  have Hb2 := hide (Hb1.out.trans hb2)
  clear hr2 hv hb2 hw1 hg HRun Hb1
  go_wp2
  go_quiet (fail)
  go_wp2
  go_ret2
  exact ⟨_, rfl, Hv.out.kept (below_drewN (Below.refl _ _) _), below_drewN Hb2.out _⟩
end Go.Proofs.Ytfmmececocilhaa.Ap
