/-
  Add: what the program's graph is with one more.
-/
import Derived.Test.YtlfncnnfpniigaaXM
namespace Go.Proofs.Ytlfncnnfpniigaa.Dq
open Go Go.RowKit Kt Kg Lw Tr

theorem ins_known {D : List Nd} (hu : Up (D.map Nd.id)) {x : Nd} (hg : get D x.id = none) (k : Bs) : (k = x.id → get (insN x D) k = some x) ∧ (k ≠ x.id → (get (insN x D) k).isSome = (get D k).isSome ∧ psL (insN x D) k = psL D k) := by
  have hx := get_none hg
  have hu' := insN_up hu hx
  refine ⟨fun e => ?_, fun hne => ?_⟩
  · subst e; exact get_of hu' (insN_mem.2 (.inl rfl))
  · cases hk : get D k with
    | none =>
      have h1 : get (insN x D) k = none := get_none_iff.2 fun m hm => by
        rcases insN_mem.1 hm with rfl | hm
        · exact fun e => hne e.symm
        · exact get_none hk m hm
      unfold psL
      rw [h1, hk]
      exact ⟨rfl, rfl⟩
    | some m =>
      obtain ⟨q1, rfl⟩ := get_some hk
      have := get_of hu' (insN_mem.2 (.inr q1))
      unfold psL
      rw [this, hk]
      exact ⟨rfl, rfl⟩
/-- the pieces, with more lists of parents -/
def Pc.more (p : Pc) (R : Nat → Prop) : Pc := ⟨p.g, p.a, p.b, p.c, p.d, fun k => p.Sp k ∨ R k, p.Sb⟩
theorem Pc.more_S {p : Pc} {R : Nat → Prop} {k : Nat} (h : (p.more R).S k) : p.S k ∨ R k := by
  rcases h with h | (h | h) | ⟨y, h⟩
  · exact .inl (.inl h)
  · exact .inl (.inr (.inl h))
  · exact .inr h
  · exact .inl (.inr (.inr ⟨y, h⟩))
theorem Gm.ins {w w' : World} {p : Pc} {D : List Nd} {sl : Bs → Option Addr × Nat} {su lev : Bs → Nat} {bh : Bs → List Bs} {bv : Bs → Option Value} (h : Gm w p D sl su lev bh bv) (hI : Inv D) {id : Bs} {ps : List Bs} (hg : get D id = none)
    {A : Option Addr} {c : Nat} {R : Nat → Prop} (hoth : ∀ k, p.S k → k ≠ p.c → w'.heap[k]? = w.heap[k]?) (hsz : w.heap.size ≤ w'.heap.size)
    (hm : Mp w' p.c (upd (fun k => if waits D k then some (ndV (sl k) (psL D k) (su k)) else none) id (some (ndV (A, c) ps 0)))) (hv : Vs w' R A c (texts ps)) (hR : ∀ k, R k → k < w'.heap.size ∧ ¬ p.S k) :
    Gm w' (p.more R) (insN ⟨id, ps, false⟩ D) (upd sl id (A, c)) (upd su id 0) lev bh bv := by
  have hO := h.ok
  have hx := get_none hg
  have hh : ∀ k, has (insN ⟨id, ps, false⟩ D) k = has D k := insN_has hI.up hx rfl
  have hn : has D id = false := by unfold has; rw [hg]
  have hw : waits D id = false := by unfold waits; rw [hg]; rfl
  have hk := fun k => ins_known hI.up (x := ⟨id, ps, false⟩) hg k
  have e1 : psL (insN ⟨id, ps, false⟩ D) id = ps := by unfold psL; rw [(hk id).1 rfl]; rfl
  refine ⟨⟨hO.ga, hO.gb, hO.gc, hO.gd, hO.ab, hO.ac, hO.ad, hO.bc, hO.bd, hO.cd, fun k hs => ?_, fun x k hs => ⟨(hO.sb x k hs).1, fun hs2 => ?_⟩, hO.one⟩, (hoth _ (.inl (.inl rfl)) hO.gc).trans h.row,
    (h.mN.move (hoth _ (.inl (.inr (.inl rfl))) hO.ac)).congr fun k => ?_, (h.mH.move (hoth _ (.inl (.inr (.inr (.inl rfl)))) hO.bc)).congr fun k => ?_, hm.congr fun k => ?_, h.mB.move (hoth _ (.inl (.inr (.inr (.inr (.inr rfl))))) hO.cd.symm), fun k hs => ?_, fun k => ?_, fun k hs => ?_⟩
  · rcases hs with hs | hs
    · exact hO.sp k hs
    · exact fun hf => (hR k hs).2 (.inl hf)
  · rcases hs2 with hs2 | hs2
    · exact (hO.sb x k hs).2 hs2
    · exact (hR k hs2).2 (.inr (.inr ⟨x, hs⟩))
  · rw [hh]
    by_cases e : k = id
    · subst e; rw [hn]; rfl
    · rw [upd_ne _ _ e, ((hk k).2 e).2]
  · simp only [heads_ins hI ps hg]
  · by_cases e : k = id
    · subst e
      have : waits (insN ⟨k, ps, false⟩ D) k = true := by unfold waits; rw [(hk k).1 rfl, hh, hn]; rfl
      rw [upd_same, this, if_pos rfl, upd_same, upd_same, e1]
    · have : waits (insN ⟨id, ps, false⟩ D) k = waits D k := by unfold waits; rw [((hk k).2 e).1, hh]
      rw [upd_ne _ _ e, this, upd_ne _ _ e, upd_ne _ _ e, ((hk k).2 e).2]
  · by_cases e : k = id
    · subst e
      rw [upd_same, e1]
      exact ⟨hv.1, fun h0 => by
        obtain ⟨b, o, e, hb, hc⟩ := hv.2 h0
        exact ⟨b, o, e, .inr hb, hc⟩⟩
    · rw [((hk k).2 e).1] at hs
      rw [upd_ne _ _ e, ((hk k).2 e).2]
      have h1 := (h.sls k hs).move (w' := w') fun b hb _ => hoth b (.inr (.inl hb)) fun e2 => hO.sp b hb (.inr (.inr (.inr (.inl e2))))
      exact ⟨h1.1, fun h0 => by
        obtain ⟨b, o, e, hb, hc⟩ := h1.2 h0
        exact ⟨b, o, e, .inl hb, hc⟩⟩
  · exact (h.rows k).imp (fun z => z) fun ⟨v, h1, h2, h3⟩ => ⟨v, h1, OwT.moved h2 fun g hg' => hoth g (.inr (.inr ⟨k, h3 g hg'⟩)) fun e => (hO.sb k g (h3 g hg')).1 (.inr (.inr (.inr (.inl e)))), h3⟩
  · rcases Pc.more_S hs with hs | hs
    · exact Nat.lt_of_lt_of_le (h.lt k hs) hsz
    · exact (hR k hs).1
theorem ownsRow_low {w : World} {B B' : Nat} {v : Value} {l : List Bs} (h : OwT w B tId v l) (hb : B' ≤ B) : OwT w B' tId v l := by
  refine ⟨h.1, ?_⟩
  rcases h.2 with k | ⟨g, cap, cur, hv, k1, k2⟩
  · exact .inl k
  · exact .inr ⟨g, cap, cur, hv, Nat.le_trans hb k1, k2⟩
/-- what Add leaves -/
def AddPost (w : World) (p0 : Pc) (T : List Nd × List Bs) (y : Ending) (w' : World) : Prop :=
  ∃ v, y = .returned v ∧ ∃ p sl su lev bh bv, Gm w' p T.1 sl su lev bh bv ∧ Kp T.1 su bh [] [] ∧ Lv T.1 lev ∧ OwT w' w.heap.size tId v T.2 ∧ p.g = p0.g ∧ (∀ k, p.S k → p0.S k ∨ w.heap.size ≤ k) ∧ (∀ k, v.ownBlock = some k → ¬ p.S k) ∧ Oth p0.S w w'
set_option maxRecDepth 100000 in
set_option maxHeartbeats 2000000 in
theorem padd_any {w : World} {p : Pc} {D : List Nd} {sl : Bs → Option Addr × Nat} {su lev : Bs → Nat} {bh : Bs → List Bs} {bv : Bs → Option Value} (h : Gm w p D sl su lev bh bv) (hK : Kp D su bh [] []) (hL : Lv D lev) (hOk : Okd D) (hl : D.length < 20)
    (id : Bs) (ps : List Bs) (A : Option Addr) (c : Nat) (Pb : Nat → Prop) (hv : Vs w Pb A c (texts ps)) (hp6 : ps.length ≤ 6) :
    Calls Try.prog 11 #[pt p.g, kS id, .slice A ps.length c] w (AddPost w p (Dq.add D id ps)) := by
  have HHas := hide (phas_any h id)
  obtain ⟨n, hn⟩ : ∃ n, n = ps.length := ⟨_, rfl⟩
  rw [← hn]
  have HN := hide hn
  -- nothing is done
  have HNo := hide (show (get D id).isSome = true → ∀ w1, Below w.heap.size w w1 → AddPost w p (Dq.add D id ps) (.returned (.slice none 0 0)) w1 from fun hkn w1 hb => by
    rw [add_known hkn]
    exact ⟨_, rfl, p, sl, su, lev, bh, bv, h.below hb, hK, hL, OwT.nil _ _ _, rfl, fun _ hk => .inl hk, fun k (hk : Value.ownBlock (.slice none 0 0) = some k) => (by cases hk), Oth.of_below _ hb⟩)
  have H := hide h
  have HK := hide hK
  have HL := hide hL
  have HOk := hide hOk
  have HV := hide (vs_low hv)
  clear h hK hL hOk hv hn
  cases hk : has D id with
  | true =>
    rw [hk] at HHas
    have HF := hide (HNo.out (has_known hk))
    clear hk HNo
    go_enter Try.func11, Try.ntmps11
    go_wp2_with fail
    refine HHas.out.mono ?_
    rintro y w1 ⟨rfl, hb⟩
    have HB := hide hb
    clear hb HHas
    go_wp2
    go_ret
    exact HF.out _ HB.out
  | false =>
    rw [hk] at HHas
    cases hw : waits D id with
    | true =>
      have HF := hide (HNo.out (known_if.2 (.inr hw)))
      have HW := hide hw
      clear hk hw HNo
      go_enter Try.func11, Try.ntmps11
      go_wp2_with fail
      refine HHas.out.mono ?_
      rintro y w1 ⟨rfl, hb⟩
      have hc := pwaits_any (H.out.below hb) id
      rw [HW.out] at hc
      have HC := hide hc
      have HB := hide hb
      clear hb HHas hc
      go_wp2_with fail
      refine HC.out.mono ?_
      rintro y w2 ⟨rfl, hb2⟩
      have HB2 := hide (HB.out.trans (hb2.mono HB.out.size))
      clear hb2 HC
      go_wp2
      go_ret
      exact HF.out _ HB2.out
    | false =>
      have hg : get D id = none := by
        cases hg : get D id with
        | none => rfl
        | some m => have := known_if.1 (show (get D id).isSome = true by rw [hg]; rfl); rw [hk, hw] at this; simp at this
      have HW := hide hw
      have HG := hide hg
      clear hk hw HNo hg
      go_enter Try.func11, Try.ntmps11
      go_wp2_with fail
      refine HHas.out.mono ?_
      rintro y w1 ⟨rfl, hb⟩
      have hc := pwaits_any (H.out.below hb) id
      rw [HW.out] at hc
      have HC := hide hc
      have HB := hide hb
      clear hb HHas hc
      go_wp2_with fail
      refine HC.out.mono ?_
      rintro y w2 ⟨rfl, hb2⟩
      have hb02 := HB.out.trans (hb2.mono HB.out.size)
      have HCl := hide (show Calls Try.prog 32 #[.slice A n c] w2 _ from by
        rw [HN.out]
        exact clone_ids (vs_keep HV.out hb02) (by omega))
      have HB02 := hide hb02
      clear hb2 HC hb02 HB
      go_wp2_with fail
      refine HCl.out.mono ?_
      rintro y w3 ⟨v3, rfl, h3, hb3⟩
      have HSo := hide (sort_any h3 (by omega))
      have HB03 := hide (HB02.out.trans (hb3.mono HB02.out.size))
      obtain ⟨A3, c3, hv3, _⟩ := h3.vs
      have HO3 := hide h3
      have HB3 := hide hb3
      subst hv3
      rw [← HN.out] at HSo HO3 ⊢
      clear h3 hb3 HCl
      go_wp2_with fail
      refine HSo.out.mono ?_
      rintro y w4 ⟨rfl, h4, hg4⟩
      have hb4 : Below w.heap.size w w4 := HB03.out.grown hg4 HB03.out.size fun k e => by
        have h1 := (World.ownsRow.lt HO3.out k e).1
        have := HB02.out.size
        omega
      have hC := compact_ids (w := w4.drew) h4 (by rw [srt_len]; omega)
      rw [compact_srt] at hC
      have HC := hide hC
      have H4 := hide (H.out.below hb4)
      have HB4 := hide hb4
      have c2 : w4.drew.cell? ⟨p.g, 2, none⟩ = some (.map (some p.c)) := H4.out.cells.2.2.1
      have HSz := hide (show w.heap.size ≤ w2.heap.size from HB02.out.size)
      have HSl := hide (srt_len ps)
      have HOw3 := hide (show ∀ k, Value.ownBlock (.slice A3 n c3) = some k → w2.heap.size ≤ k ∧ k < w4.heap.size from fun k e => ⟨(World.ownsRow.lt HO3.out k e).1, Nat.lt_of_lt_of_le (World.ownsRow.lt HO3.out k e).2 hg4.size⟩)
      clear h4 hg4 hb4 hC HSo HB03 HO3 HB3 HB02
      go_wp2
      refine Rg.wp_region_ord (fun w' => w'.cell? ⟨p.g, 2, none⟩ = some (.map (some p.c))) [(0, true), (1, true), (2, true), (3, true), (4, true), (5, true), (6, false), (7, true), (8, false)] (by kernel_rfl) (by kernel_rfl) ?_
      simp only [Rg.pick, List.map_cons, List.map_nil, List.getD_cons_zero, List.getD_cons_succ]
      iterate 6 (refine Rg.ord_quiet (v := ?_) rfl (fun w' hS => ?_) c2 ?_; rotate_left; (go_simp; with_reducible rfl); simp only [Act.put, List.setIfInBounds_toArray, List.set_cons_succ, List.set_cons_zero])
      refine Rg.ord_loud rfl (fun K hK => ?_)
      go_simp
      refine HC.out.mono ?_
      rintro y w5 ⟨v5, rfl, h5, hg5, hv5⟩
      have hpn : ∀ k, p.S k → Value.ownBlock (.slice A3 n c3) ≠ some k := fun k hk e => by
        have h1 := (HOw3.out k e).1
        have h2 := H.out.lt k hk
        have := HSz.out
        omega
      have o5 : ∀ k, p.S k → w5.heap[k]? = w4.heap[k]? := fun k hk => hg5.block k (H4.out.lt k hk) fun e => hpn k hk e.symm
      have d2 : w5.cell? ⟨p.g, 2, none⟩ = some (.map (some p.c)) := (World.cell?_of_block (a := ⟨p.g, 2, none⟩) (o5 p.g (.inl (.inl rfl)))).trans H4.out.cells.2.2.1
      obtain ⟨A5, c5, hv5e, hvs5⟩ := h5.vs
      obtain ⟨o, hup, hmW⟩ := (H4.out.mW.move (o5 p.c (.inl (.inr (.inr (.inr (.inl rfl))))))).update (P := Try.prog) (T := tMW) Try.underlying50 Try.underlying23 id (.agg #[.slice A5 (sortIds ps).length c5, .int .i64 0])
      obtain ⟨w6, hw6⟩ : ∃ z, z = w5.putObj p.c o := ⟨_, rfl⟩
      rw [← hw6] at hup hmW
      have o6 : ∀ k, k ≠ p.c → w6.heap[k]? = w5.heap[k]? := fun k hk => by rw [hw6]; exact World.putObj_heap_other hk
      have hs6 : w6.heap.size = w5.heap.size := by rw [hw6]; simp [World.putObj]
      have hs5 : w4.heap.size ≤ w5.heap.size := hg5.size
      have hR : ∀ k, v5.ownBlock = some k → k < w6.heap.size ∧ ¬ p.S k := fun k hk => by
        rw [hv5] at hk
        refine ⟨by have := (HOw3.out k hk).2; omega, fun hS => hpn k hS hk⟩
      have hG6 : Gm w6 (p.more fun k => v5.ownBlock = some k) (insN ⟨id, sortIds ps, false⟩ D) (upd sl id (A5, c5)) (upd su id 0) lev bh bv := by
        refine H4.out.ins (w' := w6) HK.out.inv HG.out (fun k hk hkc => (o6 k hkc).trans (o5 k hk)) (by omega) (by rw [show ndV (A5, c5) (sortIds ps) 0 = .agg #[.slice A5 (sortIds ps).length c5, .int .i64 0] from rfl]; exact hmW) ?_ hR
        refine ⟨hvs5.1, fun h0 => ?_⟩
        obtain ⟨b, o', e, hb, hc⟩ := hvs5.2 h0
        refine ⟨b, o', e, hb.2, fun j v hj => (World.cell?_of_block (a := ⟨b, o' + j, none⟩) (o6 b fun e2 => ?_)).trans (hc j v hj)⟩
        exact (hR b hb.2).2 (.inl (.inr (.inr (.inr (.inl e2)))))
      have hK6 := HK.out.start (sortIds ps) HG.out
      have hlen6 := insN_len ⟨id, sortIds ps, false⟩ D
      have HFl := hide (flow_any hG6 hK6 (HL.out.ins id (sortIds ps)) (by rw [hlen6]; omega) (fun m hm => by
        rcases insN_mem.1 hm with rfl | hm
        · have := sortIds_len ps; show (sortIds ps).length ≤ 6; omega
        · exact (HOk.out.ids m hm).2.1))
      rw [hlen6, show D.length + 1 + 1 = D.length + 2 from rfl, ← add_fill HK.out.inv HOk.out.full ps HG.out] at HFl
      have hoth6 : Oth p.S w w6 := by
        have q1 : Oth p.S w w4 := Oth.of_below _ HB4.out
        have q2 : Oth p.S w w5 := ⟨hg5.os.trans q1.os, hg5.tape.trans q1.tape, hg5.output.trans q1.output, Nat.le_trans q1.size hs5, fun k hk hn => (hg5.block k (Nat.lt_of_lt_of_le hk q1.size) fun e => by
          have h1 := (HOw3.out k e.symm).1
          have := HSz.out
          omega).trans (q1.block k hk hn)⟩
        rw [hw6]; exact oth_put q2 (.inl (.inr (.inr (.inr (.inl rfl))))) o
      have HPost := hide (show ∀ y w7, FlowPost w6 (p.more fun k => v5.ownBlock = some k) (Dq.add D id ps) (upd sl id (A5, c5)) y w7 → AddPost w p (Dq.add D id ps) y w7 from by
        rintro y w7 ⟨v, rfl, p7, su7, lev7, bh7, bv7, k1, k2, k3, k4, k5, k6, k7, k8⟩
        have hnew : ∀ k, p7.S k → p.S k ∨ w.heap.size ≤ k := fun k hk => by
          rcases k6 k hk with e | e
          · rcases Pc.more_S e with e | e
            · exact .inl e
            · rw [hv5] at e
              have := (HOw3.out k e).1
              have := HSz.out
              exact .inr (by omega)
          · exact .inr (Nat.le_trans hoth6.size e)
        refine ⟨v, rfl, p7, _, su7, lev7, bh7, bv7, k1, k2, k3, ownsRow_low k4 hoth6.size, k5, hnew, k7, ?_⟩
        refine Oth.trans hoth6 k8 fun k hk hS => ?_
        rcases Pc.more_S hS with e | e
        · exact e
        · rw [hv5] at e
          have := (HOw3.out k e).1
          have := HSz.out
          omega)
      have HUp := hide hup
      clear hpn o5 hvs5 hmW hw6 o6 hs6 hs5 hR hG6 hK6 hlen6 hoth6 h5 hg5 hv5
      subst hv5e
      refine hK _ _ (fun _ => d2) ?_
      clear hK K
      iterate 1 (refine Rg.ord_quiet (v := ?_) rfl (fun w' hS => ?_) d2 ?_; rotate_left; (go_simp; with_reducible rfl); simp only [Act.put, List.setIfInBounds_toArray, List.set_cons_succ, List.set_cons_zero])
      have hup := HUp.out
      refine Rg.ord_loud rfl (fun K hK => ?_)
      go_simp
      refine hK _ _ (fun hf => absurd (show Rg.sink _ 8 = true from by kernel_rfl) (by rw [hf]; decide)) ?_
      clear hK K d2 hup HUp c2
      refine Rg.ord_nil ?_
      go_wp2_with fail
      refine HFl.out.mono ?_
      intro y w7 hF
      have hA := HPost.out y w7 hF
      obtain ⟨v, rfl, _⟩ := hF
      have HA := hide hA
      clear hA HPost HFl
      go_wp2
      go_ret
      exact HA.out
end Go.Proofs.Ytlfncnnfpniigaa.Dq
