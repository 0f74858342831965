/-
  flow: who waits comes in, one after the other.
-/
import Derived.WalkMore
import Derived.Test.YtplmcpdlommmaaaQXK
namespace Go.Proofs.Ytplmcpdlommmaaa.Dq
open Go Go.RowKit Kt Kg Lw Tr

theorem Kp.few {D : List Nd} {su : Bs → Nat} {bh : Bs → List Bs} {nx hg : List Bs} (K : Kp D su bh nx hg) : nx.length ≤ D.length := by
  have := len_sub (m := D.map Nd.id) K.once.1 fun x hx => by
    obtain ⟨n, hn, rfl, _⟩ := K.next x hx
    exact List.mem_map_of_mem hn
  simpa using this
theorem Kp.few2 {D : List Nd} {su : Bs → Nat} {bh : Bs → List Bs} {nx hg : List Bs} (K : Kp D su bh nx hg) : hg.length ≤ D.length := by
  have := len_sub (m := D.map Nd.id) K.once.2.1 fun x hx => by
    obtain ⟨n, hn, rfl, _⟩ := K.node hx
    exact List.mem_map_of_mem hn
  simpa using this
/-- flow's round, all but the frame -/
structure FlO (w0 : World) (p0 : Pc) (D1 : List Nd) (T : List Nd × List Bs) (sl : Bs → Option Addr × Nat) (q : Nat) (wr : World) (p : Pc) (D : List Nd) (su lev : Bs → Nat) (bh : Bs → List Bs) (bv : Bs → Option Value) (Sq : Nat → Prop) (nx : List Bs) (vc : Value) (came : List Bs)
    (A : Option Addr) (c : Nat) (hg : List Bs) (P : Nat → Prop) (k : Nat) (f : Nat) : Prop where
  fl : Fl w0 p0 wr p D sl su lev bh bv Sq q nx vc came
  hu : Hu wr p Sq vc A c hg P
  kp : Kp D su bh nx (hg.drop k)
  bs : bas D = bas D1
  ln : D.length = D1.length
  ct : cnt D = cnt D1 + came.length
  fi : fill f D came = T
  fu : f + came.length = D1.length + 1
theorem bas_ps {D D1 : List Nd} (hb : bas D = bas D1) {n : Nd} (hn : n ∈ D) : ∃ m ∈ D1, m.id = n.id ∧ m.ps = n.ps := by
  have : (n.id, n.ps) ∈ bas D1 := by rw [← hb]; exact List.mem_map.2 ⟨n, hn, rfl⟩
  obtain ⟨m, hm, e⟩ := List.mem_map.1 this
  injection e with e1 e2
  exact ⟨m, hm, e1, e2⟩
def lenV : Value → Nat
  | .slice _ n _ => n
  | _ => 0
/-- what flow leaves -/
def FlowPost (w : World) (p0 : Pc) (T : List Nd × List Bs) (sl : Bs → Option Addr × Nat) (y : Ending) (w' : World) : Prop :=
  ∃ v, y = .returned v ∧ ∃ p su lev bh bv, Gm w' p T.1 sl su lev bh bv ∧ Kp T.1 su bh [] [] ∧ Lv T.1 lev ∧ OwT w' w.heap.size tId v T.2 ∧ p.g = p0.g ∧ (∀ k, p.S k → p0.S k ∨ w.heap.size ≤ k) ∧ (∀ k, v.ownBlock = some k → ¬ p.S k) ∧ Oth p0.S w w'
set_option maxRecDepth 100000 in
set_option maxHeartbeats 4000000 in
theorem flow_any {w : World} {p0 : Pc} {D1 : List Nd} {sl : Bs → Option Addr × Nat} {su0 lev0 : Bs → Nat} {bh0 : Bs → List Bs} {bv0 : Bs → Option Value} {id : Bs} (h : Gm w p0 D1 sl su0 lev0 bh0 bv0) (hK : Kp D1 su0 bh0 [] [id]) (hL : Lv D1 lev0)
    (hfew : D1.length ≤ 40) (hps : ∀ n ∈ D1, n.ps.length ≤ 10) : Calls Try.prog 44 #[pt p0.g, kS id] w (FlowPost w p0 (fill (D1.length + 1) D1 []) sl) := by
  obtain ⟨q, hq⟩ : ∃ q, q = w.heap.size := ⟨_, rfl⟩
  obtain ⟨w1, hw1⟩ : ∃ z, z = w.alloc (.cells #[.slice none 0 0] tRdy) := ⟨_, rfl⟩
  obtain ⟨w2, hw2⟩ : ∃ z, z = w1.alloc (.cells #[kS id] tId) := ⟨_, rfl⟩
  have hsz1 : w1.heap.size = q + 1 := by rw [hw1, hq]; simp
  have hb1 : Below w.heap.size w w1 := by rw [hw1]; exact (Below.refl _ w).alloc (Nat.le_refl _) _
  have hb2 : Below w.heap.size w w2 := by rw [hw2]; exact hb1.alloc hb1.size _
  have hsz2 : w2.heap.size = q + 2 := by rw [hw2, World.size_alloc, hsz1]
  have hrowq : w2.heap[q]? = some (.cells #[.slice none 0 0] tRdy (0, 0)) := by
    rw [hw2, Below.heap_alloc w1 _ q (by omega), hw1, hq]; exact World.alloc_heap_new w _
  have hS0 : ∀ k, p0.S k → k < q := fun k hk => by rw [hq]; exact h.lt k hk
  have hF0 : FlO w p0 D1 (fill (D1.length + 1) D1 []) sl q w2 p0 D1 su0 lev0 bh0 bv0 (fun k => k = q) [] (.slice none 0 0) [] (some ⟨q + 1, 0, none⟩) 1 [id] (fun k => k = q + 1) 0 (D1.length + 1) := by
    refine ⟨⟨h.below hb2, ⟨⟨_, hrowq, OwT.nil _ _ _, fun g hg => (by cases hg)⟩, rfl, fun k hk => by subst hk; omega⟩, fun k _ hk => absurd hk (Nat.not_lt_zero _), OwT.nil _ _ _, fun k hk hs => ?_, fun k hk => (by cases hk), fun k hk => by subst hk; omega, fun k hk => .inl hk, Oth.of_below _ hb2, rfl, hL⟩,
      ⟨⟨Nat.le_refl _, fun _ => ⟨q + 1, 0, rfl, rfl, fun j v hj => ?_⟩⟩, fun k hk => ⟨by omega, fun hs => ?_, fun e => by omega, fun e => (by cases e)⟩⟩, hK, rfl, rfl, rfl, rfl, rfl⟩
    · subst hk; have := hS0 _ hs; omega
    · have e := (Row.fresh w1 tId #[kS id]).cell j
      rw [Nat.zero_add, hw2, ← hsz1]
      rw [← hj, e]
      rfl
    · have := hS0 k hs; omega
  have HF0 := hide hF0
  obtain ⟨T, hT⟩ : ∃ T, T = fill (D1.length + 1) D1 [] := ⟨_, rfl⟩
  rw [← hT] at HF0 ⊢
  have HPs := hide hps
  have HQ := hide hq
  clear h hK hL hb1 hb2 hrowq hS0 hF0 hT hps
  go_enter Try.func44, Try.ntmps44
  go_wp2
  rw [← hw1, ← hw2, ← hq]
  have HSz2 := hide hsz2
  clear hw1 hw2 hsz1 hsz2 hq
  go_loopw [5, 7] (fun vc vh wr => ∃ p D su lev bh bv Sq nx came A c hg P f, vh = .slice A hg.length c ∧ (∃ A' c', vc = .slice A' came.length c') ∧ Hid (FlO w p0 D1 T sl q wr p D su lev bh bv Sq nx vc came A c hg P 0 f)) (fun vc _ _ => D1.length + 1 - lenV vc)
  case atStart => exact ⟨_, _, _, _, _, _, _, _, _, _, _, _, _, _, rfl, ⟨_, _, rfl⟩, HF0⟩
  case round =>
    clear HF0
    obtain ⟨p, D, su, lev, bh, bv, Sq, nx, came, A, c, hg, P, f, rfl, ⟨Ac, cc, rfl⟩, HO⟩ := hrel
    have hg0 := HO.out.fl.g0
    have HInv := hide HO.out.kp.inv
    obtain ⟨nh, hnh⟩ : ∃ nh, nh = hg.length := ⟨_, rfl⟩
    rw [← hnh]
    have hnh20 : nh ≤ 40 := by
      have h1 := HO.out.kp.few2
      rw [List.drop_zero] at h1
      have := HO.out.ln
      omega
    have HNh := hide hnh
    obtain ⟨nc, hnc⟩ : ∃ nc, nc = came.length := ⟨_, rfl⟩
    rw [← hnc]
    have HNc := hide hnc
    clear hnh hnc
    obtain ⟨wo, hwo⟩ : ∃ z, z = wr := ⟨_, rfl⟩
    subst hwo
    go_wp2
    go_step3
    go_wp2
    go_step3
    go_wp2
    go_loopw [18] (fun vk wr2 => ∃ (k : Nat) (p' : Pc) (su' : Bs → Nat) (bh' : Bs → List Bs) (bv' : Bs → Option Value) (Sq' : Nat → Prop) (nx' : List Bs), vk = .int .i64 k ∧ k ≤ nh ∧ Hid (FlO w p0 D1 T sl q wr2 p' D su' lev bh' bv' Sq' nx' (.slice Ac nc cc) came A c hg P k f)) (fun vk _ => nh - (intOf vk).toNat)
    case atStart => exact ⟨0, p, su, bh, bv, Sq, nx, rfl, Nat.zero_le _, by rw [HNc.out]; exact HO⟩
    case round =>
      clear HO
      obtain ⟨k, p', su', bh', bv', Sq', nx', rfl, hk, HO⟩ := hrel
      obtain ⟨wr2, hwo⟩ : ∃ z, z = wr := ⟨_, rfl⟩
      subst hwo
      by_cases hlt : k < nh
      · obtain ⟨ab, ao, hA, ck⟩ := vs_text (w' := wr2) (vs_low HO.out.hu.vs) (Below.refl _ _) (k := k) (by have := HNh.out; omega)
        subst hA
        obtain ⟨x, hx⟩ : ∃ x, x = hg.getD k [] := ⟨_, rfl⟩
        have hxk : hg[k]? = some x := by rw [hx, List.getD_eq_getElem?_getD, List.getElem?_eq_getElem (by have := HNh.out; omega)]; rfl
        rw [← hx] at ck
        have hK := HO.out.kp
        rw [drop_cons hxk] at hK
        obtain ⟨n, hn, hne, hno⟩ := hK.node List.mem_cons_self
        have hu := hK.inv.up
        have hwt : waits D x = true := by rw [← hne, waits_of hu hn, hno]; rfl
        have hpl : psL D x = n.ps := by rw [← hne]; exact psL_of hu hn
        have hbn : su' x ≤ n.ps.length := by rw [← hne]; exact hK.bnd n hn hno
        have hn6 : n.ps.length ≤ 10 := by
          obtain ⟨m, hm, _, e⟩ := bas_ps HO.out.bs hn
          rw [← e]; exact HPs.out m hm
        have hG := HO.out.fl.gm
        have hg0 := HO.out.fl.g0
        obtain ⟨_, _, c2, _⟩ := hG.cells
        obtain ⟨Aw, mw, cw, xw, hlk, q1, _⟩ := hG.lookW x false
        simp only [Bool.false_eq_true, if_false] at hlk
        obtain ⟨rfl, rfl, rfl, rfl⟩ := q1 hwt
        rw [hg0] at c2
        have hvs := hG.sls x (known_if.2 (.inr hwt))
        rw [hpl] at hvs hlk
        obtain ⟨m, hm⟩ : ∃ m, m = n.ps.length := ⟨_, rfl⟩
        obtain ⟨s, hs⟩ : ∃ s, s = su' x := ⟨_, rfl⟩
        obtain ⟨Aw, hAw⟩ : ∃ Aw, Aw = (sl x).1 := ⟨_, rfl⟩
        obtain ⟨cw, hcw⟩ : ∃ cw, cw = (sl x).2 := ⟨_, rfl⟩
        rw [← hAw, ← hcw] at hlk hvs
        rw [← hm, ← hs] at hlk hbn
        rw [← hm] at hn6
        have hcut := vs_cutI hvs (i := s) (by rw [← hm]; exact hbn)
        have hrun := fun w => run_cutI w Aw m cw s hbn
        obtain ⟨A2, hA2⟩ : ∃ A2, (if cw = s then Aw else Aw.map (·.add s)) = A2 := ⟨_, rfl⟩
        obtain ⟨c2', hc2⟩ : ∃ c2, c2 = cw - s := ⟨_, rfl⟩
        obtain ⟨m2, hm2⟩ : ∃ m2, m2 = m - s := ⟨_, rfl⟩
        rw [hA2, ← hc2] at hcut
        simp only [hA2, ← hc2, ← hm2] at hrun
        have HCut := hide hcut
        have HK := hide hK
        have HX := hide hxk
        have HN := hide (And.intro hn (And.intro hne hno))
        have HM := hide hm
        have HS := hide hs
        have HM2 := hide hm2
        have HPl := hide hpl
        have HAw := hide hAw
        have HCw := hide hcw
        have HWt := hide hwt
        obtain ⟨w3, hw3⟩ : ∃ z, z = wr2.alloc (.cells #[.slice Aw m cw, .int .i64 (s : Nat)] 65) := ⟨_, rfl⟩
        obtain ⟨b1, hb1⟩ : ∃ z, z = wr2.heap.size := ⟨_, rfl⟩
        have hb3 : Below wr2.heap.size wr2 w3 := by rw [hw3]; exact (Below.refl _ _).alloc (Nat.le_refl _) _
        have hrow3 : w3.heap[b1]? = some (.cells #[.slice Aw m cw, .int .i64 (s : Nat)] 65 (0, 0)) := by rw [hw3, hb1]; exact World.alloc_heap_new wr2 _
        have HB3 := hide hb3
        have HRow3 := hide hrow3
        have HB1 := hide hb1
        have HG0 := hide hg0
        clear hx hxk hK hn hne hno hu hwt hpl hm hs hAw hcw hcut hA2 hc2 hm2 hvs hG hb3 hrow3 q1 hg0
        have hs6 : s ≤ 10 := by omega
        have hm26 : m2 ≤ 10 := by have := HM2.out; omega
        go_wp2
        rw [← hw3, ← hb1]
        clear hw3 hb1 ck c2 hlk hrun
        go_loopw [34] (fun vi wr3 => ∃ i : Nat, vi = .int .i64 i ∧ i ≤ m2 ∧ Hid (Below w3.heap.size w3 wr3 ∧ ∀ j q, s ≤ j → j < s + i → n.ps[j]? = some q → has D q = true)) (fun vi _ => m2 - (intOf vi).toNat)
        case atStart => exact ⟨0, rfl, Nat.zero_le _, hide ⟨Below.refl _ _, fun j q h1 h2 => by omega⟩⟩
        case round =>
          obtain ⟨i, rfl, hi, HI⟩ := hrel
          obtain ⟨w4, hwo⟩ : ∃ z, z = wr := ⟨_, rfl⟩
          subst hwo
          have hb4 : Below wr2.heap.size wr2 w4 := HB3.out.trans (HI.out.1.mono HB3.out.size)
          have hF4 := HO.out.fl.below hb4
          have hH4 := HO.out.hu.below hb4
          have hrow4 : w4.heap[b1]? = some (.cells #[.slice Aw m cw, .int .i64 (s : Nat)] 65 (0, 0)) := (HI.out.1.block b1 (Array.getElem?_eq_some_iff.1 HRow3.out).1).trans HRow3.out
          by_cases hlt3 : i < m2
          · obtain ⟨pb, po, hA2, ck⟩ := vs_text (vs_low HCut.out) hb4 (k := i) (by rw [List.length_drop, ← HM.out, ← HM2.out]; exact hlt3)
            subst hA2
            obtain ⟨pk, hpk⟩ : ∃ z, z = (n.ps.drop s).getD i [] := ⟨_, rfl⟩
            rw [← hpk] at ck
            have hpk2 : n.ps[s + i]? = some pk := by
              rw [hpk, List.getD_eq_getElem?_getD, List.getElem?_drop, List.getElem?_eq_getElem (by rw [← HM.out]; have := HM2.out; omega)]; rfl
            have HHas := hide (phas_any hF4.gm pk)
            rw [HG0.out] at HHas
            have HPk := hide hpk2
            have HF4 := hide hF4
            have HH4 := hide hH4
            have HRow4 := hide hrow4
            have HB4 := hide hb4
            clear hpk hpk2 hF4 hH4 hrow4 hb4
            cases hk : has D pk with
            | true =>
              rw [hk] at HHas
              have HHk := hide hk
              clear hk
              go_wp2_with fail
              refine HHas.out.mono ?_
              rintro y w5 ⟨rfl, hb5⟩
              have HB5 := hide hb5
              clear hb5 HHas
              go_wp2
              refine ⟨⟨i + 1, by go_num, by omega, hide ⟨HI.out.1.trans (HB5.out.mono HI.out.1.size), fun j q h1 h2 h3 => ?_⟩⟩, by simp [intOf]; omega⟩
              by_cases e : j = s + i
              · rw [e, HPk.out] at h3
                injection h3 with h3
                rw [← h3]; exact HHk.out
              · exact HI.out.2 j q h1 (by omega) h3
            | false =>
              rw [hk] at HHas
              have HHk := hide hk
              clear hk
              go_wp2_with fail
              refine HHas.out.mono ?_
              rintro y w5 ⟨rfl, hb5⟩
              have hF5 := HF4.out.below hb5
              have hH5 := HH4.out.below hb5
              have hrow5 := (hb5.block b1 (Array.getElem?_eq_some_iff.1 HRow4.out).1).trans HRow4.out
              have hG := hF5.gm
              have hO := hG.ok
              have hg5 := hF5.g0
              obtain ⟨j, hj⟩ : ∃ j, j = s + i := ⟨_, rfl⟩
              have hndv : ndV (sl x) (psL D x) j = .agg #[.slice Aw m cw, .int .i64 (j : Nat)] := by unfold ndV; rw [HPl.out, ← HM.out, ← HAw.out, ← HCw.out]
              have HJ := hide (show IntKind.i64.wrap ((s : Int) + (i : Int)) = ((j : Nat) : Int) from by rw [IntWalk.i64_in _ (by omega)]; omega)
              have HJe := hide hj
              obtain ⟨o1, hup, hmW6⟩ := (hG.mW.move (w' := w5.drew) rfl).update (P := Try.prog) (T := tMW) Try.underlying59 Try.underlying23 x (.agg #[.slice Aw m cw, .int .i64 (j : Nat)])
              obtain ⟨w6, hw6⟩ : ∃ z, z = w5.drew.putObj p'.c o1 := ⟨_, rfl⟩
              rw [← hw6] at hup
              have hG6 : Gm w6 p' D sl (upd su' x j) lev bh' bv' := by
                rw [hw6]
                have hGd : Gm w5.drew p' D sl su' lev bh' bv' := hG.move (fun _ _ => rfl) (Nat.le_refl _)
                exact hGd.sure HWt.out (by rw [hndv]; exact hmW6)
              have hoth6 : Oth p'.S w5 w6 := by rw [hw6]; exact oth_put (Oth.refl _ w5).drew (.inl (.inr (.inr (.inr (.inl rfl))))) o1
              have hsz6 : w6.heap.size = w5.heap.size := by rw [hw6]; simp [World.putObj]
              have c2 : w5.drew.cell? ⟨p0.g, 2, none⟩ = some (.map (some p'.c)) := by rw [← hg5]; exact hG.cells.2.2.1
              have e0 : w5.drew.cell? ⟨b1, 0, none⟩ = some (.slice Aw m cw) := by show w5.cell? _ = _; simp [World.cell?, hrow5]
              have e1 : w5.drew.cell? ⟨b1, 1, none⟩ = some (.int .i64 (s : Nat)) := by show w5.cell? _ = _; simp [World.cell?, hrow5]
              have HUp := hide hup
              have HG6 := hide hG6
              have HF5 := hide hF5
              have HH5 := hide hH5
              have HO6 := hide hoth6
              have HSz6 := hide hsz6
              have HOk := hide hO
              have HG5 := hide hg5
              clear ck HHas hb5 hrow5 hG hO hg5 hj hndv hup hmW6 hw6 hG6 hF5 hH5 hoth6 hsz6
              go_wp2
              refine Rg.wp_region_ord (fun w' => w'.cell? ⟨p0.g, 2, none⟩ = some (.map (some p'.c)) ∧ w'.cell? ⟨b1, 0, none⟩ = some (.slice Aw m cw) ∧ w'.cell? ⟨b1, 1, none⟩ = some (.int .i64 (s : Nat))) [(0, true), (1, true), (2, true), (3, true), (4, true), (5, true), (6, true), (7, true), (8, true), (9, true), (10, true), (11, true), (12, false)] (by kernel_rfl) (by kernel_rfl) ?_
              simp only [Rg.pick, List.map_cons, List.map_nil, List.getD_cons_zero, List.getD_cons_succ]
              iterate 11 (refine Rg.ord_quiet (v := ?_) rfl (fun w' hS => ?_) ⟨c2, e0, e1⟩ ?_; rotate_left; (obtain ⟨s2, s1, s0⟩ := hS; go_simp; with_reducible rfl); simp only [Act.put, List.setIfInBounds_toArray, List.set_cons_succ, List.set_cons_zero])
              rw [HJ.out]
              iterate 1 (refine Rg.ord_quiet (v := ?_) rfl (fun w' hS => ?_) ⟨c2, e0, e1⟩ ?_; rotate_left; (obtain ⟨s2, s1, s0⟩ := hS; go_simp; with_reducible rfl); simp only [Act.put, List.setIfInBounds_toArray, List.set_cons_succ, List.set_cons_zero])
              have hup := HUp.out
              refine Rg.ord_loud rfl (fun K hK => ?_)
              go_simp
              refine hK _ _ (fun hf => absurd (show Rg.sink _ 12 = true from by kernel_rfl) (by rw [hf]; decide)) ?_
              clear hK K c2 e0 e1 hup HUp
              refine Rg.ord_nil ?_
              have hG := HG6.out
              have hO := HOk.out
              have c3 : w6.drew.cell? ⟨p0.g, 3, none⟩ = some (.map (some p'.d)) := by rw [← HG5.out]; exact hG.cells.2.2.2
              -- who stands behind it so far
              obtain ⟨vb, hvb1, hvb2, hvb3⟩ : ∃ vb, (∀ w', w'.heap[p'.d]? = w6.heap[p'.d]? → (Instr.lookup tMB (.map (some p'.d)) (kS pk) false).run Try.prog w' = .ok vb w') ∧ OwT w6 0 tId vb (bh' pk) ∧ ∀ b, vb.ownBlock = some b → p'.Sb pk b := by
                rcases hG.rows pk with ⟨k1, k2⟩ | ⟨v, k1, k2, k3⟩
                · exact ⟨.slice none 0 0, fun w' hw => (hG.mB.move hw).look_none (P := Try.prog) (T := tMB) Try.underlying60 Try.underlying23 (zeroB w') k2 false, by rw [k1]; exact OwT.nil _ _ _, fun b hb => by cases hb⟩
                · exact ⟨v, fun w' hw => (hG.mB.move hw).look_some (P := Try.prog) (T := tMB) Try.underlying60 Try.underlying23 k1 false, k2, k3⟩
              obtain ⟨Ab, cb, hvbe, _⟩ := hvb2.vs
              obtain ⟨nb, hnb⟩ : ∃ nb, nb = (bh' pk).length := ⟨_, rfl⟩
              rw [← hnb] at hvbe
              subst hvbe
              have hbl : (bh' pk).length ≤ 40 := by
                have h1 := len_sub (m := D.map Nd.id) (HK.out.once.2.2 pk) fun y hy => by
                  obtain ⟨_, m', q2, rfl, _⟩ := HK.out.behind pk y hy
                  exact List.mem_map_of_mem q2
                rw [List.length_map] at h1
                have := HO.out.ln
                omega
              have hvd : Value.ownBlock (.slice Ab nb cb) ≠ some p'.d := fun e => (hO.sb pk p'.d (hvb3 _ e)).1 (.inr (.inr (.inr (.inr rfl))))
              have hdl : p'.d < w6.heap.size := hG.lt _ (.inl (.inr (.inr (.inr (.inr rfl)))))
              have HLk := hide hvb1
              have HB2 := hide hvb2
              have HB3b := hide hvb3
              have HBl := hide hbl
              have HVd := hide hvd
              have HDl := hide hdl
              have HNb := hide hnb
              have hd0 : w6.drew.heap[p'.d]? = w6.heap[p'.d]? := rfl
              clear hG hO hvb1 hvb2 hvb3 hbl hvd hdl hnb
              go_wp2
              refine Rg.wp_region_ord (fun w' => w'.cell? ⟨p0.g, 3, none⟩ = some (.map (some p'.d)) ∧ w'.heap[p'.d]? = w6.heap[p'.d]?) [(0, true), (1, true), (2, true), (3, true), (4, true), (5, true), (6, true), (7, true), (8, true), (9, true), (10, true), (11, true), (12, false), (13, false), (14, false)] (by kernel_rfl) (by kernel_rfl) ?_
              simp only [Rg.pick, List.map_cons, List.map_nil, List.getD_cons_zero, List.getD_cons_succ]
              iterate 12 (refine Rg.ord_quiet (v := ?_) rfl (fun w' hS => ?_) ⟨c3, hd0⟩ ?_; rotate_left; (obtain ⟨s1, s0⟩ := hS; have s2 := HLk.out w' s0; go_simp; with_reducible rfl); simp only [Act.put, List.setIfInBounds_toArray, List.set_cons_succ, List.set_cons_zero])
              refine Rg.ord_loud rfl (fun K hK => ?_)
              go_simp
              have g3 : (w6.drew.alloc (.cells #[kS x] tId)).cell? ⟨p0.g, 3, none⟩ = some (.map (some p'.d)) := by
                have hlt : p0.g < w6.drew.heap.size := World.block_lt_of_cell? w6.drew ⟨p0.g, 3, none⟩ c3
                exact (World.cell?_of_block (a := ⟨p0.g, 3, none⟩) (Below.heap_alloc w6.drew _ p0.g hlt)).trans c3
              have gd : (w6.drew.alloc (.cells #[kS x] tId)).heap[p'.d]? = w6.heap[p'.d]? := Below.heap_alloc w6.drew _ p'.d HDl.out
              refine hK _ _ (fun _ => ⟨g3, gd⟩) ?_
              clear hK K
              refine Rg.ord_loud rfl (fun K hK => ?_)
              refine wp_pushT (W := w6.drew) Try.underlying31 (.tmp 65) (.tmp 67) rfl 0 w6.drew (.slice Ab nb cb) (bh' pk) x _ rfl rfl rfl (show OwT w6.drew 0 tId (.slice Ab nb cb) (bh' pk) from HB2.out) (by have := HBl.out; omega) (Below.refl 0 w6.drew) (Nat.zero_le _) ?_
              intro v8 w8 hown8 _ hg8 hor8
              have f3 : w8.cell? ⟨p0.g, 3, none⟩ = some (.map (some p'.d)) := by
                have hlt : p0.g < w6.drew.heap.size := World.block_lt_of_cell? w6.drew ⟨p0.g, 3, none⟩ c3
                refine (World.cell?_of_block (a := ⟨p0.g, 3, none⟩) (hg8.block p0.g hlt fun e => ?_)).trans c3
                rw [← HG5.out] at e
                exact (HOk.out.sb pk p'.g (HB3b.out _ e.symm)).1 (.inl rfl)
              have fd : w8.heap[p'.d]? = w6.heap[p'.d]? := hg8.block p'.d HDl.out fun e => HVd.out e.symm
              obtain ⟨o2, hup, hmB9⟩ := (HG6.out.mB.move fd).update (P := Try.prog) (T := tMB) Try.underlying60 Try.underlying23 pk v8
              obtain ⟨w9, hw9⟩ : ∃ z, z = w8.putObj p'.d o2 := ⟨_, rfl⟩
              rw [← hw9] at hup hmB9
              have HNew := hide (show FlO w p0 D1 T sl q w9 (p'.row pk fun z => v8.ownBlock = some z) D (upd su' x j) lev (upd bh' pk (bh' pk ++ [x])) (upd bv' pk (some v8)) Sq' nx' (.slice Ac nc cc) came (some ⟨ab, ao, none⟩) c hg P (k + 1) f from by
                have hO := HOk.out
                have hs8 : w6.heap.size ≤ w8.heap.size := hg8.size
                have hs9 : w9.heap.size = w8.heap.size := by rw [hw9]; simp [World.putObj]
                have o9 : ∀ z, z ≠ p'.d → w9.heap[z]? = w8.heap[z]? := fun z hz => by rw [hw9]; exact World.putObj_heap_other hz
                have hnew : ∀ z, v8.ownBlock = some z → p'.Sb pk z ∨ z = w6.heap.size + 1 := fun z hz => by
                  rcases hor8 with e | e
                  · exact .inl (HB3b.out z (by rw [← e]; exact hz))
                  · rw [e] at hz; injection hz with hz; exact .inr hz.symm
                have hv8d : ∀ z, v8.ownBlock = some z → z ≠ p'.d := fun z hz e => by
                  rcases hnew z hz with k1 | k1
                  · exact (hO.sb pk z k1).1 (.inr (.inr (.inr (.inr e))))
                  · have := HDl.out; omega
                have hown9 : OwT w9 0 tId v8 (bh' pk ++ [x]) := OwT.moved hown8 fun z hz => o9 z (hv8d z hz)
                have hR : ∀ z, v8.ownBlock = some z → z < w9.heap.size ∧ ¬ p'.five z ∧ ¬ p'.Sp z ∧ ∀ y, y ≠ pk → ¬ p'.Sb y z := fun z hz => by
                  refine ⟨by rw [hs9]; exact (OwT.lt hown8 hz).2, ?_⟩
                  rcases hnew z hz with k1 | k1
                  · exact ⟨(hO.sb pk z k1).1, (hO.sb pk z k1).2, fun y hy h1 => hy (hO.one y pk z h1 k1)⟩
                  · have hno : ¬ p'.S z := fun h1 => by have := HG6.out.lt z h1; omega
                    exact ⟨fun h1 => hno (.inl h1), fun h1 => hno (.inr (.inl h1)), fun y _ h1 => hno (.inr (.inr ⟨y, h1⟩))⟩
                have hG9 : Gm w9 (p'.row pk fun z => v8.ownBlock = some z) D sl (upd su' x j) lev (upd bh' pk (bh' pk ++ [x])) (upd bv' pk (some v8)) :=
                  HG6.out.behind (w' := w9) (fun z hz hzd hzb => (o9 z hzd).trans (hg8.block z (HG6.out.lt z hz) fun e => hzb (HB3b.out z e.symm))) (by omega) hmB9 (.inr ⟨v8, rfl, hown9, fun b hb => hb⟩) hR
                have hoth : Oth p'.S w5 w9 := by
                  rw [hw9]
                  refine oth_put (Oth.trans HO6.out (Oth.of_grown (S := p'.S) (A := w6) (B := w8) ⟨hg8.os, hg8.tape, hg8.output, hg8.size, hg8.block⟩ fun z hz => .inr (.inr ⟨pk, HB3b.out z hz⟩)) fun _ _ h => h) (.inl (.inr (.inr (.inr (.inr rfl))))) o2
                have hpS : ∀ z, (p'.row pk fun z => v8.ownBlock = some z).S z → p'.S z ∨ w5.heap.size ≤ z := fun z hz => by
                  rcases Pc.row_S hz with h1 | h1
                  · exact .inl h1
                  · rcases hnew z h1 with k1 | k1
                    · exact .inl (.inr (.inr ⟨pk, k1⟩))
                    · right; have := HSz6.out; omega
                refine ⟨HF5.out.graph hoth hG9 hpS rfl HF5.out.lvl, HH5.out.graph hoth hpS, ?_, HO.out.bs, HO.out.ln, HO.out.ct, HO.out.fi, HO.out.fu⟩
                have hje := HJe.out
                refine HK.out.wait HN.out.1 HN.out.2.1 (by rw [← HS.out]; omega) (fun j' q' h1 h2 h3 => ?_) (by rw [HJe.out]; exact HPk.out) HHk.out
                rw [← HS.out] at h1
                exact HI.out.2 j' q' h1 (by omega) h3)
              obtain ⟨A8, c8, hv8, _⟩ := hown8.vs
              have HUp := hide hup
              clear hown8 hg8 hor8 hmB9 hw9 hup c3 g3 gd hd0
              subst hv8
              generalize (bh' pk ++ [x]).length = n8 at HNew HUp ⊢
              refine hK _ _ (fun _ => ⟨f3, fd⟩) ?_
              clear hK K
              have hup := HUp.out
              refine Rg.ord_loud rfl (fun K hK => ?_)
              go_simp
              refine hK _ _ (fun hf => absurd (show Rg.sink _ 14 = true from by kernel_rfl) (by rw [hf]; decide)) ?_
              clear hK K f3 fd hup HUp
              refine Rg.ord_nil ?_
              go_wp2
              exact ⟨⟨k + 1, _, _, _, _, Sq', nx', by go_num, by omega, HNew⟩, by simp [intOf]; omega⟩
          · obtain rfl : i = m2 := by omega
            have hnx := HO.out.kp.few
            have hln := HO.out.ln
            have HPu := hide (hpush_any hF4.hp hF4.hh x (by omega))
            have HF4 := hide hF4
            have HH4 := hide hH4
            clear hF4 hH4 hrow4 hb4 hnx hln
            go_wp2_with fail
            refine HPu.out.mono ?_
            rintro y w5 ⟨rfl, Sq5, l5, k1, k2, k3, k4, k5⟩
            have HNew := hide (show FlO w p0 D1 T sl q w5 p' D su' lev bh' bv' Sq5 l5 (.slice Ac nc cc) came (some ⟨ab, ao, none⟩) c hg P (k + 1) f from by
              refine ⟨HF4.out.heap k1 k3 k4 k5, HH4.out.heap k4 k5, ?_, HO.out.bs, HO.out.ln, HO.out.ct, HO.out.fi, HO.out.fu⟩
              refine Kp.perm (HK.out.go HN.out.1 HN.out.2.1 fun j q h1 h2 => ?_) k2.symm
              have hj := (List.getElem?_eq_some_iff.1 h2).1
              rw [← HS.out] at h1
              exact HI.out.2 j q h1 (by have := HM.out; have := HM2.out; omega) h2)
            clear k1 k2 k3 k4 k5 HPu
            go_wp2
            exact ⟨⟨k + 1, p', su', bh', bv', Sq5, l5, by go_num, by omega, HNew⟩, by simp [intOf]; omega⟩
      · obtain rfl : k = nh := by omega
        have hdr : hg.drop k = [] := List.drop_eq_nil_of_le (by rw [← HNh.out]; exact Nat.le_refl _)
        have hK := HO.out.kp
        rw [hdr] at hK
        obtain ⟨Aq, cq, hcq, _⟩ := HO.out.fl.hp.cell
        obtain ⟨n, hn⟩ : ∃ n, n = nx'.length := ⟨_, rfl⟩
        rw [← hn] at hcq
        have hn20 : n ≤ 40 := by
          have h1 := hK.few
          have := HO.out.ln
          omega
        have HK := hide hK
        have HN := hide hn
        clear hK hdr hn
        cases n with
        | zero =>
          have hnil : nx' = [] := List.eq_nil_of_length_eq_zero HN.out.symm
          have hT : T = (D, came) := by
            rw [← HO.out.fi]
            exact fill_none (by have := HK.out; rw [hnil] at this; exact this.full)
          have HF := hide (show FlowPost w p0 T sl (.returned (.slice Ac nc cc)) wr2 from by
            rw [hT]
            refine ⟨_, rfl, p', su', lev, bh', bv', HO.out.fl.gm, by have := HK.out; rwa [hnil] at this, HO.out.fl.lvl, HO.out.fl.cm, HO.out.fl.g0, HO.out.fl.pS, fun z hz => (HO.out.fl.d2 z hz).1, HO.out.fl.oth⟩)
          clear hT hnil
          go_wp2
          go_ret
          exact HF.out
        | succ n =>
          have hF := HO.out.fl
          have hnn : nx'.length = n + 1 := HN.out.symm
          have HPo := hide (hpop_any hF.hp hF.hh hnn (by omega))
          have hne0 : ¬ ((n + 1 : Nat) : Int) = 0 := by omega
          clear hF hnn
          go_wp2_with fail
          refine HPo.out.mono ?_
          rintro y w5 ⟨x, l5, rfl, k1, k2, k3, k4, k5⟩
          obtain ⟨i, nd, hi, hne, hno, hr, hnx, hK5⟩ := HK.out.enter k3 k4
          have hF5 : Fl w p0 w5 p' D sl su' lev bh' bv' Sq' q l5 (.slice Ac nc cc) came := HO.out.fl.heap k1 k2 k5 fun _ h => .inl h
          have hta := assert_id x
          have hnd : nd ∈ D := List.mem_of_getElem? hi
          have hnd6 : nd.ps.length ≤ 10 := by
            obtain ⟨m, hm, _, e⟩ := bas_ps HO.out.bs hnd
            rw [← e]; exact HPs.out m hm
          have hinv := HK.out.inv
          have HEn := hide (enter_any hF5.gm hinv hF5.lvl (by have := HO.out.ln; omega) hi hno hr hnd6)
          rw [hne, hF5.g0] at HEn
          obtain ⟨D', hD'⟩ : ∃ z, z = turnOn D i := ⟨_, rfl⟩
          obtain ⟨lev', hlev'⟩ : ∃ z, z = upd lev x (foldL lev nd.ps) := ⟨_, rfl⟩
          have hLv : Lv D' lev' := by
            have := hF5.lvl.turn hinv hi hno hr
            rw [hne] at this
            rw [hD', hlev']
            exact this
          have hcnt : cnt D' = cnt D + 1 := by rw [hD']; exact turnOn_cnt D i nd hi hno
          have hlen : D'.length = D.length := by rw [hD']; exact turnOn_len D i
          have hbas : bas D' = bas D := by rw [hD']; exact turnOn_bas D i
          have hcl := cnt_le D'
          obtain ⟨f', hf'⟩ : ∃ f', f = f' + 1 := ⟨f - 1, by have := HO.out.fu; have := HO.out.ct; have := HO.out.ln; omega⟩
          have hfi : fill f' D' (came ++ [x]) = T := by
            rw [← HO.out.fi, hf', fill_some hnx hi, hne, hD']
          have hncl : nc ≤ D1.length := by have := HO.out.ct; have := HO.out.ln; have := HNc.out; omega
          rw [← hD', ← hlev'] at HEn
          rw [← hD'] at hK5
          have HF5 := hide hF5
          have HK5 := hide hK5
          have HLv := hide hLv
          have HD := hide (And.intro hcnt (And.intro hlen (And.intro hbas (And.intro hfi hf'))))
          clear hi hne hno hr hnx hK5 hF5 hnd hnd6 hinv hD' hlev' hLv hcnt hlen hbas hcl hf' hfi k1 k2 k3 k4 k5 HPo hcq
          go_wp2_with fail
          refine HEn.out.mono ?_
          rintro y w6 ⟨rfl, HE6⟩
          have hab : ∀ z, p'.abc z → p'.S z := fun z hz => .inl (hz.elim (fun e => .inr (.inl e)) fun e => e.elim (fun e => .inr (.inr (.inl e))) fun e => .inr (.inr (.inr (.inl e))))
          have hF6 : Fl w p0 w6 p' D' sl su' lev' bh' bv' Sq' q l5 (.slice Ac nc cc) came := HF5.out.graph (HE6.out.2.mono fun z _ hz => hab z hz) HE6.out.1 (fun _ h => .inl h) rfl HLv.out
          have HF6 := hide hF6
          have hcm := hF6.cm
          have HCm := hide hcm
          have hcml : came.length ≤ 1000 := by have := HNc.out; omega
          clear hF6 hab hcm HEn hta
          obtain ⟨nb, hnb⟩ : ∃ nb, nb = (bh' x).length := ⟨_, rfl⟩
          have HSt := hide (show ∀ v7 w7, OwT w7 w.heap.size tId v7 (came ++ [x]) → w6.grownBy w7 (Value.ownBlock (.slice Ac nc cc)) → (v7.ownBlock = Value.ownBlock (.slice Ac nc cc) ∨ v7.ownBlock = some (w6.heap.size + 1)) →
              ∃ A7 c7 Ab cb w8, v7 = .slice A7 (nc + 1) c7 ∧ w7.cell? ⟨p0.g, 3, none⟩ = some (.map (some p'.d)) ∧ (Instr.lookup tMB (.map (some p'.d)) (kS x) false).run Try.prog w7 = .ok (.slice Ab (bh' x).length cb) w7 ∧ (∀ ty, (Builtin.delete_ #[tMB, tId] ty #[.map (some p'.d), kS x]).run Try.prog w7 = .ok (.tuple #[]) w8) ∧
                Hid (FlO w p0 D1 T sl q w8 (p'.row x fun _ => False) D' su' lev' (upd bh' x []) (upd bv' x none) Sq' l5 (.slice A7 (nc + 1) c7) (came ++ [x]) Ab cb (bh' x) (fun z => Value.ownBlock (.slice Ab (bh' x).length cb) = some z) 0 f') from by
            intro v7 w7 hown7 hg7 hor7
            obtain ⟨A7, c7, hv7, _⟩ := hown7.vs
            have hF7 : Fl w p0 w7 p' D' sl su' lev' bh' bv' Sq' q l5 (.slice A7 (came ++ [x]).length c7) (came ++ [x]) := by
              rw [← hv7]
              refine HF6.out.told hown7 ⟨hg7.os, hg7.tape, hg7.output, hg7.size, hg7.block⟩ fun z hz => ?_
              rcases hor7 with e | e
              · exact .inl (by rw [← e]; exact hz)
              · rw [e] at hz; injection hz with hz; exact .inr (by omega)
            have hlen8 : (came ++ [x]).length = nc + 1 := by rw [List.length_append, HNc.out]; rfl
            rw [hlen8] at hF7 hv7
            have hG := hF7.gm
            have hO := hG.ok
            have c3 : w7.cell? ⟨p0.g, 3, none⟩ = some (.map (some p'.d)) := by rw [← hF7.g0]; exact hG.cells.2.2.2
            obtain ⟨vb, hvb1, hvb2, hvb3⟩ : ∃ vb, (Instr.lookup tMB (.map (some p'.d)) (kS x) false).run Try.prog w7 = .ok vb w7 ∧ OwT w7 0 tId vb (bh' x) ∧ ∀ b, vb.ownBlock = some b → p'.Sb x b := by
              rcases hG.rows x with ⟨k1, k2⟩ | ⟨v, k1, k2, k3⟩
              · exact ⟨.slice none 0 0, hG.mB.look_none (P := Try.prog) (T := tMB) Try.underlying60 Try.underlying23 (zeroB w7) k2 false, by rw [k1]; exact OwT.nil _ _ _, fun b hb => by cases hb⟩
              · exact ⟨v, hG.mB.look_some (P := Try.prog) (T := tMB) Try.underlying60 Try.underlying23 k1 false, k2, k3⟩
            obtain ⟨Ab, cb, hvbe, hvs⟩ := hvb2.vs
            subst hvbe
            obtain ⟨o, hdel, hmB8⟩ := hG.mB.delete (P := Try.prog) (T := tMB) Try.underlying60 Try.underlying23 x
            obtain ⟨w8, hw8⟩ : ∃ z, z = w7.putObj p'.d o := ⟨_, rfl⟩
            rw [← hw8] at hdel hmB8
            refine ⟨A7, c7, Ab, cb, w8, hv7, c3, hvb1, hdel, hide (show FlO w p0 D1 T sl q w8 (p'.row x fun _ => False) D' su' lev' (upd bh' x []) (upd bv' x none) Sq' l5 (.slice A7 (nc + 1) c7) (came ++ [x]) Ab cb (bh' x) (fun z => Value.ownBlock (.slice Ab (bh' x).length cb) = some z) 0 f' from by
              have o8 : ∀ z, z ≠ p'.d → w8.heap[z]? = w7.heap[z]? := fun z hz => by rw [hw8]; exact World.putObj_heap_other hz
              have hs8 : w8.heap.size = w7.heap.size := by rw [hw8]; simp [World.putObj]
              have hG8 : Gm w8 (p'.row x fun _ => False) D' sl su' lev' (upd bh' x []) (upd bv' x none) :=
                hG.behind (w' := w8) (fun z _ hzd _ => o8 z hzd) (by omega) hmB8 (.inl ⟨rfl, rfl⟩) (fun z hz => hz.elim)
              have hoth : Oth p'.S w7 w8 := by rw [hw8]; exact oth_put (Oth.refl _ w7) (.inl (.inr (.inr (.inr (.inr rfl))))) o
              have hpS : ∀ z, (p'.row x fun _ => False).S z → p'.S z ∨ w7.heap.size ≤ z := fun z hz => (Pc.row_S hz).elim .inl fun h => h.elim
              obtain ⟨d1, d2, d3, d4, d5⟩ := HD.out
              refine ⟨hF7.graph hoth hG8 hpS rfl HLv.out, ⟨?_, fun z hz => ?_⟩, HK5.out, d3.trans HO.out.bs, d2.trans HO.out.ln, ?_, d4, ?_⟩
              · refine ⟨hvs.1, fun h0 => ?_⟩
                obtain ⟨b, o', e, hb, hc⟩ := hvs.2 h0
                refine ⟨b, o', e, hb.2, fun j v hj => ?_⟩
                refine (World.cell?_of_block (a := ⟨b, o' + j, none⟩) (o8 b fun e2 => ?_)).trans (hc j v hj)
                exact (hO.sb x b (hvb3 b hb.2)).1 (.inr (.inr (.inr (.inr e2))))
              · have hb := hvb3 z hz
                refine ⟨by rw [hs8]; exact (OwT.lt hvb2 hz).2, fun hS => ?_, fun hS => hF7.d1 z hS (.inr (.inr ⟨x, hb⟩)), fun hS => (hF7.d2 z hS).1 (.inr (.inr ⟨x, hb⟩))⟩
                rcases hS with hS | hS | ⟨y, hS⟩
                · exact (hO.sb x z hb).1 hS
                · exact (hO.sb x z hb).2 hS
                · by_cases e : y = x
                  · simp [Pc.row, e] at hS
                  · exact e (hO.one y x z (by simpa [Pc.row, e] using hS) hb)
              · rw [d1, HO.out.ct, List.length_append]; rfl
              · rw [List.length_append]; have := HO.out.fu; show f' + (came.length + 1) = _; omega)⟩)
          rw [← hnb] at HSt
          have HNb := hide hnb
          clear hnb
          go_wp2_with (at_builtin; refine wpList_pushT Try.underlying31 rfl (.tmp 85) (.tmp 87) rfl w.heap.size w6 (.slice Ac nc cc) came x _ rfl rfl rfl HCm.out (by omega) (Below.refl _ _) HF6.out.oth.size ?_; intro v7 w7 hown7 _ hg7 hor7; obtain ⟨A7, c7, Ab, cb, w8, hv7, c3, hlk, hdel, HNew⟩ := HSt.out v7 w7 hown7 hg7 hor7; clear hown7 hg7 hor7; subst hv7)
          rw [Exit.noGoto_normal]
          clear c3 hlk hdel
          go_wp2
          refine ⟨⟨_, _, _, _, _, _, _, _, came ++ [x], _, _, _, _, _, by rw [HNb.out], ⟨A7, c7, by rw [List.length_append, HNc.out]; rfl⟩, by rw [HNb.out] at HNew; exact HNew⟩, by show D1.length + 1 - (nc + 1) < D1.length + 1 - nc; omega⟩
end Go.Proofs.Ytplmcpdlommmaaa.Dq
