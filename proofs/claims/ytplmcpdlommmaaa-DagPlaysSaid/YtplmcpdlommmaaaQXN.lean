/-
  Add: what the program's graph is with one more.
-/
import Derived.Test.YtplmcpdlommmaaaXM
import Derived.Maps.RangeWalk
import Derived.WideKeyElems3
namespace Go.Proofs.Ytplmcpdlommmaaa.Dq
open Go Go.RowKit Kt Kg Lw Tr

theorem ins_known {D : List Nd} (hu : Up (D.map Nd.id)) {x : Nd} (hg : get D x.id = none) (k : Bs) : (k = x.id → get (insN x D) k = some x) ∧ (k ≠ x.id → (get (insN x D) k).isSome = (get D k).isSome ∧ psL (insN x D) k = psL D k) := by
  have hx := get_none hg
  have hu' := insN_up hu hx
  refine ⟨fun e => ?_, fun hne => ?_⟩
  · subst e; exact get_of hu' (insN_mem.2 (.inl rfl))
  · cases hk : get D k with
    | none =>
      have h1 : get (insN x D) k = none := get_none_iff.2 fun m hm => by
        rcases insN_mem.1 hm with rfl | hm
        · exact fun e => hne e.symm
        · exact get_none hk m hm
      unfold psL
      rw [h1, hk]
      exact ⟨rfl, rfl⟩
    | some m =>
      obtain ⟨q1, rfl⟩ := get_some hk
      have := get_of hu' (insN_mem.2 (.inr q1))
      unfold psL
      rw [this, hk]
      exact ⟨rfl, rfl⟩
/-- the pieces, with more lists of parents -/
def Pc.more (p : Pc) (R : Nat → Prop) : Pc := ⟨p.g, p.a, p.b, p.c, p.d, fun k => p.Sp k ∨ R k, p.Sb⟩
theorem Pc.more_S {p : Pc} {R : Nat → Prop} {k : Nat} (h : (p.more R).S k) : p.S k ∨ R k := by
  rcases h with h | (h | h) | ⟨y, h⟩
  · exact .inl (.inl h)
  · exact .inl (.inr (.inl h))
  · exact .inr h
  · exact .inl (.inr (.inr ⟨y, h⟩))
theorem Gm.ins {w w' : World} {p : Pc} {D : List Nd} {sl : Bs → Option Addr × Nat} {su lev : Bs → Nat} {bh : Bs → List Bs} {bv : Bs → Option Value} (h : Gm w p D sl su lev bh bv) (hI : Inv D) {id : Bs} {ps : List Bs} (hg : get D id = none)
    {A : Option Addr} {c : Nat} {R : Nat → Prop} (hoth : ∀ k, p.S k → k ≠ p.c → w'.heap[k]? = w.heap[k]?) (hsz : w.heap.size ≤ w'.heap.size)
    (hm : Mp w' p.c (upd (fun k => if waits D k then some (ndV (sl k) (psL D k) (su k)) else none) id (some (ndV (A, c) ps 0)))) (hv : Vs w' R A c (texts ps)) (hR : ∀ k, R k → k < w'.heap.size ∧ ¬ p.S k) :
    Gm w' (p.more R) (insN ⟨id, ps, false⟩ D) (upd sl id (A, c)) (upd su id 0) lev bh bv := by
  have hO := h.ok
  have hx := get_none hg
  have hh : ∀ k, has (insN ⟨id, ps, false⟩ D) k = has D k := insN_has hI.up hx rfl
  have hn : has D id = false := by unfold has; rw [hg]
  have hw : waits D id = false := by unfold waits; rw [hg]; rfl
  have hk := fun k => ins_known hI.up (x := ⟨id, ps, false⟩) hg k
  have e1 : psL (insN ⟨id, ps, false⟩ D) id = ps := by unfold psL; rw [(hk id).1 rfl]; rfl
  refine ⟨⟨hO.ga, hO.gb, hO.gc, hO.gd, hO.ab, hO.ac, hO.ad, hO.bc, hO.bd, hO.cd, fun k hs => ?_, fun x k hs => ⟨(hO.sb x k hs).1, fun hs2 => ?_⟩, hO.one⟩, (hoth _ (.inl (.inl rfl)) hO.gc).trans h.row,
    (h.mN.move (hoth _ (.inl (.inr (.inl rfl))) hO.ac)).congr fun k => ?_, (h.mH.move (hoth _ (.inl (.inr (.inr (.inl rfl)))) hO.bc)).congr fun k => ?_, hm.congr fun k => ?_, h.mB.move (hoth _ (.inl (.inr (.inr (.inr (.inr rfl))))) hO.cd.symm), fun k hs => ?_, fun k => ?_, fun k hs => ?_⟩
  · rcases hs with hs | hs
    · exact hO.sp k hs
    · exact fun hf => (hR k hs).2 (.inl hf)
  · rcases hs2 with hs2 | hs2
    · exact (hO.sb x k hs).2 hs2
    · exact (hR k hs2).2 (.inr (.inr ⟨x, hs⟩))
  · rw [hh]
    by_cases e : k = id
    · subst e; rw [hn]; rfl
    · rw [upd_ne _ _ e, ((hk k).2 e).2]
  · simp only [heads_ins hI ps hg]
  · by_cases e : k = id
    · subst e
      have : waits (insN ⟨k, ps, false⟩ D) k = true := by unfold waits; rw [(hk k).1 rfl, hh, hn]; rfl
      rw [upd_same, this, if_pos rfl, upd_same, upd_same, e1]
    · have : waits (insN ⟨id, ps, false⟩ D) k = waits D k := by unfold waits; rw [((hk k).2 e).1, hh]
      rw [upd_ne _ _ e, this, upd_ne _ _ e, upd_ne _ _ e, ((hk k).2 e).2]
  · by_cases e : k = id
    · subst e
      rw [upd_same, e1]
      exact ⟨hv.1, fun h0 => by
        obtain ⟨b, o, e, hb, hc⟩ := hv.2 h0
        exact ⟨b, o, e, .inr hb, hc⟩⟩
    · rw [((hk k).2 e).1] at hs
      rw [upd_ne _ _ e, ((hk k).2 e).2]
      have h1 := (h.sls k hs).move (w' := w') fun b hb _ => hoth b (.inr (.inl hb)) fun e2 => hO.sp b hb (.inr (.inr (.inr (.inl e2))))
      exact ⟨h1.1, fun h0 => by
        obtain ⟨b, o, e, hb, hc⟩ := h1.2 h0
        exact ⟨b, o, e, .inl hb, hc⟩⟩
  · exact (h.rows k).imp (fun z => z) fun ⟨v, h1, h2, h3⟩ => ⟨v, h1, OwT.moved h2 fun g hg' => hoth g (.inr (.inr ⟨k, h3 g hg'⟩)) fun e => (hO.sb k g (h3 g hg')).1 (.inr (.inr (.inr (.inl e)))), h3⟩
  · rcases Pc.more_S hs with hs | hs
    · exact Nat.lt_of_lt_of_le (h.lt k hs) hsz
    · exact (hR k hs).1
theorem ownsRow_low {w : World} {B B' : Nat} {v : Value} {l : List Bs} (h : OwT w B tId v l) (hb : B' ≤ B) : OwT w B' tId v l := by
  refine ⟨h.1, ?_⟩
  rcases h.2 with k | ⟨g, cap, cur, hv, k1, k2⟩
  · exact .inl k
  · exact .inr ⟨g, cap, cur, hv, Nat.le_trans hb k1, k2⟩
/-- what Add leaves -/
def AddPost (w : World) (p0 : Pc) (T : List Nd × List Bs) (y : Ending) (w' : World) : Prop :=
  ∃ v, y = .returned v ∧ ∃ p sl su lev bh bv, Gm w' p T.1 sl su lev bh bv ∧ Kp T.1 su bh [] [] ∧ Lv T.1 lev ∧ OwT w' w.heap.size tId v T.2 ∧ p.g = p0.g ∧ (∀ k, p.S k → p0.S k ∨ w.heap.size ≤ k) ∧ (∀ k, v.ownBlock = some k → ¬ p.S k) ∧ Oth p0.S w w'
set_option maxRecDepth 100000 in
set_option maxHeartbeats 2000000 in
theorem padd_any {w : World} {p : Pc} {D : List Nd} {sl : Bs → Option Addr × Nat} {su lev : Bs → Nat} {bh : Bs → List Bs} {bv : Bs → Option Value} (h : Gm w p D sl su lev bh bv) (hK : Kp D su bh [] []) (hL : Lv D lev) (hOk : Okd D) (hl : D.length < 40)
    (id : Bs) (ps : List Bs) (A : Option Addr) (c : Nat) (Pb : Nat → Prop) (hv : Vs w Pb A c (texts ps)) (hp6 : ps.length ≤ 10) :
    Calls Try.prog 12 #[pt p.g, kS id, .slice A ps.length c] w (AddPost w p (Dq.add D id ps)) := by
  have HHas := hide (phas_any h id)
  obtain ⟨n, hn⟩ : ∃ n, n = ps.length := ⟨_, rfl⟩
  rw [← hn]
  have HN := hide hn
  -- nothing is done
  have HNo := hide (show (get D id).isSome = true → ∀ w1, Below w.heap.size w w1 → AddPost w p (Dq.add D id ps) (.returned (.slice none 0 0)) w1 from fun hkn w1 hb => by
    rw [add_known hkn]
    exact ⟨_, rfl, p, sl, su, lev, bh, bv, h.below hb, hK, hL, OwT.nil _ _ _, rfl, fun _ hk => .inl hk, fun k (hk : Value.ownBlock (.slice none 0 0) = some k) => (by cases hk), Oth.of_below _ hb⟩)
  have H := hide h
  have HK := hide hK
  have HL := hide hL
  have HOk := hide hOk
  have HV := hide (vs_low hv)
  clear h hK hL hOk hv hn
  cases hk : has D id with
  | true =>
    rw [hk] at HHas
    have HF := hide (HNo.out (has_known hk))
    clear hk HNo
    go_enter Try.func12, Try.ntmps12
    go_wp2_with fail
    refine HHas.out.mono ?_
    rintro y w1 ⟨rfl, hb⟩
    have HB := hide hb
    clear hb HHas
    go_wp2
    go_ret
    exact HF.out _ HB.out
  | false =>
    rw [hk] at HHas
    cases hw : waits D id with
    | true =>
      have HF := hide (HNo.out (known_if.2 (.inr hw)))
      have HW := hide hw
      clear hk hw HNo
      go_enter Try.func12, Try.ntmps12
      go_wp2_with fail
      refine HHas.out.mono ?_
      rintro y w1 ⟨rfl, hb⟩
      have hc := pwaits_any (H.out.below hb) id
      rw [HW.out] at hc
      have HC := hide hc
      have HB := hide hb
      clear hb HHas hc
      go_wp2_with fail
      refine HC.out.mono ?_
      rintro y w2 ⟨rfl, hb2⟩
      have HB2 := hide (HB.out.trans (hb2.mono HB.out.size))
      clear hb2 HC
      go_wp2
      go_ret
      exact HF.out _ HB2.out
    | false =>
      have hg : get D id = none := by
        cases hg : get D id with
        | none => rfl
        | some m => have := known_if.1 (show (get D id).isSome = true by rw [hg]; rfl); rw [hk, hw] at this; simp at this
      have HW := hide hw
      have HG := hide hg
      clear hk hw HNo hg
      go_enter Try.func12, Try.ntmps12
      go_wp2_with fail
      refine HHas.out.mono ?_
      rintro y w1 ⟨rfl, hb⟩
      have hc := pwaits_any (H.out.below hb) id
      rw [HW.out] at hc
      have HC := hide hc
      have HB := hide hb
      clear hb HHas hc
      go_wp2_with fail
      refine HC.out.mono ?_
      rintro y w2 ⟨rfl, hb2⟩
      have hb02 := HB.out.trans (hb2.mono HB.out.size)
      have HCl := hide (show Calls Try.prog 41 #[.slice A n c] w2 _ from by
        rw [HN.out]
        exact clone_ids (vs_keep HV.out hb02) (by omega))
      have HB02 := hide hb02
      clear hb2 HC hb02 HB
      go_wp2_with fail
      refine HCl.out.mono ?_
      rintro y w3 ⟨v3, rfl, h3, hb3⟩
      have HSo := hide (sort_any h3 (by omega))
      have HB03 := hide (HB02.out.trans (hb3.mono HB02.out.size))
      obtain ⟨A3, c3, hv3, _⟩ := h3.vs
      have HO3 := hide h3
      have HB3 := hide hb3
      subst hv3
      rw [← HN.out] at HSo HO3 ⊢
      clear h3 hb3 HCl
      go_wp2_with fail
      refine HSo.out.mono ?_
      rintro y w4 ⟨rfl, h4, hg4⟩
      have hb4 : Below w.heap.size w w4 := HB03.out.grown hg4 HB03.out.size fun k e => by
        have h1 := (World.ownsRow.lt HO3.out k e).1
        have := HB02.out.size
        omega
      have hC := compact_ids (w := w4.drew) h4 (by rw [srt_len]; omega)
      rw [compact_srt] at hC
      have HC := hide hC
      have H4 := hide (H.out.below hb4)
      have HB4 := hide hb4
      have c2 : w4.drew.cell? ⟨p.g, 2, none⟩ = some (.map (some p.c)) := H4.out.cells.2.2.1
      have HSz := hide (show w.heap.size ≤ w2.heap.size from HB02.out.size)
      have HSl := hide (srt_len ps)
      have HOw3 := hide (show ∀ k, Value.ownBlock (.slice A3 n c3) = some k → w2.heap.size ≤ k ∧ k < w4.heap.size from fun k e => ⟨(World.ownsRow.lt HO3.out k e).1, Nat.lt_of_lt_of_le (World.ownsRow.lt HO3.out k e).2 hg4.size⟩)
      clear h4 hg4 hb4 hC HSo HB03 HO3 HB3 HB02
      go_wp2
      refine Rg.wp_region_ord (fun w' => w'.cell? ⟨p.g, 2, none⟩ = some (.map (some p.c))) [(0, true), (1, true), (2, true), (3, true), (4, true), (5, true), (6, false), (7, true), (8, false)] (by kernel_rfl) (by kernel_rfl) ?_
      simp only [Rg.pick, List.map_cons, List.map_nil, List.getD_cons_zero, List.getD_cons_succ]
      iterate 6 (refine Rg.ord_quiet (v := ?_) rfl (fun w' hS => ?_) c2 ?_; rotate_left; (go_simp; with_reducible rfl); simp only [Act.put, List.setIfInBounds_toArray, List.set_cons_succ, List.set_cons_zero])
      refine Rg.ord_loud rfl (fun K hK => ?_)
      go_simp
      refine HC.out.mono ?_
      rintro y w5 ⟨v5, rfl, h5, hg5, hv5⟩
      have hpn : ∀ k, p.S k → Value.ownBlock (.slice A3 n c3) ≠ some k := fun k hk e => by
        have h1 := (HOw3.out k e).1
        have h2 := H.out.lt k hk
        have := HSz.out
        omega
      have o5 : ∀ k, p.S k → w5.heap[k]? = w4.heap[k]? := fun k hk => hg5.block k (H4.out.lt k hk) fun e => hpn k hk e.symm
      have d2 : w5.cell? ⟨p.g, 2, none⟩ = some (.map (some p.c)) := (World.cell?_of_block (a := ⟨p.g, 2, none⟩) (o5 p.g (.inl (.inl rfl)))).trans H4.out.cells.2.2.1
      obtain ⟨A5, c5, hv5e, hvs5⟩ := h5.vs
      obtain ⟨o, hup, hmW⟩ := (H4.out.mW.move (o5 p.c (.inl (.inr (.inr (.inr (.inl rfl))))))).update (P := Try.prog) (T := tMW) Try.underlying59 Try.underlying23 id (.agg #[.slice A5 (sortIds ps).length c5, .int .i64 0])
      obtain ⟨w6, hw6⟩ : ∃ z, z = w5.putObj p.c o := ⟨_, rfl⟩
      rw [← hw6] at hup hmW
      have o6 : ∀ k, k ≠ p.c → w6.heap[k]? = w5.heap[k]? := fun k hk => by rw [hw6]; exact World.putObj_heap_other hk
      have hs6 : w6.heap.size = w5.heap.size := by rw [hw6]; simp [World.putObj]
      have hs5 : w4.heap.size ≤ w5.heap.size := hg5.size
      have hR : ∀ k, v5.ownBlock = some k → k < w6.heap.size ∧ ¬ p.S k := fun k hk => by
        rw [hv5] at hk
        refine ⟨by have := (HOw3.out k hk).2; omega, fun hS => hpn k hS hk⟩
      have hG6 : Gm w6 (p.more fun k => v5.ownBlock = some k) (insN ⟨id, sortIds ps, false⟩ D) (upd sl id (A5, c5)) (upd su id 0) lev bh bv := by
        refine H4.out.ins (w' := w6) HK.out.inv HG.out (fun k hk hkc => (o6 k hkc).trans (o5 k hk)) (by omega) (by rw [show ndV (A5, c5) (sortIds ps) 0 = .agg #[.slice A5 (sortIds ps).length c5, .int .i64 0] from rfl]; exact hmW) ?_ hR
        refine ⟨hvs5.1, fun h0 => ?_⟩
        obtain ⟨b, o', e, hb, hc⟩ := hvs5.2 h0
        refine ⟨b, o', e, hb.2, fun j v hj => (World.cell?_of_block (a := ⟨b, o' + j, none⟩) (o6 b fun e2 => ?_)).trans (hc j v hj)⟩
        exact (hR b hb.2).2 (.inl (.inr (.inr (.inr (.inl e2)))))
      have hK6 := HK.out.start (sortIds ps) HG.out
      have hlen6 := insN_len ⟨id, sortIds ps, false⟩ D
      have HFl := hide (flow_any hG6 hK6 (HL.out.ins id (sortIds ps)) (by rw [hlen6]; omega) (fun m hm => by
        rcases insN_mem.1 hm with rfl | hm
        · have := sortIds_len ps; show (sortIds ps).length ≤ 10; omega
        · exact (HOk.out.ids m hm).2.1))
      rw [hlen6, show D.length + 1 + 1 = D.length + 2 from rfl, ← add_fill HK.out.inv HOk.out.full ps HG.out] at HFl
      have hoth6 : Oth p.S w w6 := by
        have q1 : Oth p.S w w4 := Oth.of_below _ HB4.out
        have q2 : Oth p.S w w5 := ⟨hg5.os.trans q1.os, hg5.tape.trans q1.tape, hg5.output.trans q1.output, Nat.le_trans q1.size hs5, fun k hk hn => (hg5.block k (Nat.lt_of_lt_of_le hk q1.size) fun e => by
          have h1 := (HOw3.out k e.symm).1
          have := HSz.out
          omega).trans (q1.block k hk hn)⟩
        rw [hw6]; exact oth_put q2 (.inl (.inr (.inr (.inr (.inl rfl))))) o
      have HPost := hide (show ∀ y w7, FlowPost w6 (p.more fun k => v5.ownBlock = some k) (Dq.add D id ps) (upd sl id (A5, c5)) y w7 → AddPost w p (Dq.add D id ps) y w7 from by
        rintro y w7 ⟨v, rfl, p7, su7, lev7, bh7, bv7, k1, k2, k3, k4, k5, k6, k7, k8⟩
        have hnew : ∀ k, p7.S k → p.S k ∨ w.heap.size ≤ k := fun k hk => by
          rcases k6 k hk with e | e
          · rcases Pc.more_S e with e | e
            · exact .inl e
            · rw [hv5] at e
              have := (HOw3.out k e).1
              have := HSz.out
              exact .inr (by omega)
          · exact .inr (Nat.le_trans hoth6.size e)
        refine ⟨v, rfl, p7, _, su7, lev7, bh7, bv7, k1, k2, k3, ownsRow_low k4 hoth6.size, k5, hnew, k7, ?_⟩
        refine Oth.trans hoth6 k8 fun k hk hS => ?_
        rcases Pc.more_S hS with e | e
        · exact e
        · rw [hv5] at e
          have := (HOw3.out k e).1
          have := HSz.out
          omega)
      have HUp := hide hup
      clear hpn o5 hvs5 hmW hw6 o6 hs6 hs5 hR hG6 hK6 hlen6 hoth6 h5 hg5 hv5
      subst hv5e
      refine hK _ _ (fun _ => d2) ?_
      clear hK K
      iterate 1 (refine Rg.ord_quiet (v := ?_) rfl (fun w' hS => ?_) d2 ?_; rotate_left; (go_simp; with_reducible rfl); simp only [Act.put, List.setIfInBounds_toArray, List.set_cons_succ, List.set_cons_zero])
      have hup := HUp.out
      refine Rg.ord_loud rfl (fun K hK => ?_)
      go_simp
      refine hK _ _ (fun hf => absurd (show Rg.sink _ 8 = true from by kernel_rfl) (by rw [hf]; decide)) ?_
      clear hK K d2 hup HUp c2
      refine Rg.ord_nil ?_
      go_wp2_with fail
      refine HFl.out.mono ?_
      intro y w7 hF
      have hA := HPost.out y w7 hF
      obtain ⟨v, rfl, _⟩ := hF
      have HA := hide hA
      clear hA HPost HFl
      go_wp2
      go_ret
      exact HA.out
end Go.Proofs.Ytplmcpdlommmaaa.Dq
namespace Go.Proofs.Ytplmcpdlommmaaa.Dq
open Go Go.RowKit Go.Maps Go.Sort Kt Kg Lw Tr

/-! ### On lists -/
theorem lackGo_mem {D : List Nd} {y : Bs} : ∀ (l o : List Bs), y ∈ lackGo D o l ↔ y ∈ o ∨ (y ∈ l ∧ get D y = none)
  | [], o => by simp [lackGo]
  | x :: r, o => by
    have := lackGo_mem (D := D) (y := y) r (if (get D x).isSome then o else putId o x)
    unfold lackGo at this ⊢
    rw [List.foldl_cons, this]
    cases hx : get D x with
    | none =>
      rw [if_neg (by simp), putId_mem, List.mem_cons]
      constructor
      · rintro ((rfl | h) | h)
        · exact .inr ⟨.inl rfl, hx⟩
        · exact .inl h
        · exact .inr ⟨.inr h.1, h.2⟩
      · rintro (h | ⟨rfl | h, h2⟩)
        · exact .inl (.inr h)
        · exact .inl (.inl rfl)
        · exact .inr ⟨h, h2⟩
    | some n =>
      rw [if_pos (show (some n).isSome = true from rfl), List.mem_cons]
      constructor
      · rintro (h | h)
        · exact .inl h
        · exact .inr ⟨.inr h.1, h.2⟩
      · rintro (h | ⟨rfl | h, h2⟩)
        · exact .inl h
        · rw [hx] at h2; cases h2
        · exact .inr ⟨h, h2⟩
theorem lackGo_up {D : List Nd} : ∀ (l : List Bs) {o : List Bs}, Up o → Up (lackGo D o l)
  | [], _, h => h
  | x :: r, o, h => by
    have := lackGo_up (D := D) r (o := if (get D x).isSome then o else putId o x) (by split; exact h; exact putId_up h)
    unfold lackGo at this ⊢
    rw [List.foldl_cons]; exact this
theorem lacks_sorted (D : List Nd) : Up (lacks D) := lackGo_up _ List.Pairwise.nil
theorem lacks_mem {D : List Nd} (hu : Up (D.map Nd.id)) (y : Bs) : y ∈ lacks D ↔ get D y = none ∧ ∃ x, waits D x = true ∧ y ∈ psL D x := by
  have : y ∈ lacks D ↔ y ∈ ([] : List Bs) ∨ (y ∈ (D.filter fun n => !n.on).flatMap Nd.ps ∧ get D y = none) := lackGo_mem _ _
  rw [this]
  simp only [List.not_mem_nil, false_or, List.mem_flatMap, List.mem_filter]
  constructor
  · rintro ⟨⟨n, ⟨h1, h2⟩, h3⟩, h4⟩
    exact ⟨h4, n.id, by rw [waits_of hu h1]; exact h2, by rw [psL_of hu h1]; exact h3⟩
  · rintro ⟨h4, x, h1, h2⟩
    obtain ⟨n, hn⟩ := Option.isSome_iff_exists.1 (known_if.2 (.inr h1))
    obtain ⟨q1, rfl⟩ := get_some hn
    rw [waits_of hu q1] at h1
    rw [psL_of hu q1] at h2
    exact ⟨⟨n, ⟨q1, h1⟩, h2⟩, h4⟩
theorem flat_few : ∀ {L : List Nd}, (∀ n ∈ L, n.ps.length ≤ 10) → (L.flatMap Nd.ps).length ≤ 10 * L.length
  | [], _ => by simp
  | n :: r, h => by
    have h1 := h n List.mem_cons_self
    have h2 := flat_few fun m hm => h m (List.mem_cons_of_mem n hm)
    rw [List.flatMap_cons, List.length_append, List.length_cons]
    omega
theorem lacks_few {D : List Nd} (h : Okd D) : (lacks D).length ≤ 400 := by
  have h1 : (lacks D).length ≤ ((D.filter fun n => !n.on).flatMap Nd.ps).length := len_sub (up_nodup (lacks_sorted D)) fun y hy => by
    have : y ∈ ([] : List Bs) ∨ (y ∈ (D.filter fun n => !n.on).flatMap Nd.ps ∧ get D y = none) := (lackGo_mem _ _).1 hy
    rcases this with k | k
    · cases k
    · exact k.1
  have h2 := flat_few (L := D.filter fun n => !n.on) fun n hn => (h.ids n (List.mem_filter.1 hn).1).2.1
  have h3 : (D.filter fun n => !n.on).length ≤ D.length := List.length_filter_le _ _
  have := h.few
  omega
theorem lacks_short {D : List Nd} (h : Okd D) {y : Bs} (hy : y ∈ lacks D) : y.length ≤ 50 := by
  obtain ⟨_, x, h1, h2⟩ := (lacks_mem h.inv.up y).1 hy
  obtain ⟨n, hn⟩ := Option.isSome_iff_exists.1 (known_if.2 (.inr h1))
  obtain ⟨q1, rfl⟩ := get_some hn
  rw [psL_of h.inv.up q1] at h2
  exact (h.ids n q1).2.2 y h2
/-! ### In memory -/
theorem own_move {w w' : World} {P : Program} {K : TypeId} {b n : Nat} {D0 : DataW Value} (h : w.ownsMap P K RR b n D0) (hb : w'.heap[b]? = w.heap[b]?) : w'.ownsMap P K RR b n D0 := by
  obtain ⟨es, cl, h1, h2⟩ := h
  exact ⟨es, cl, hb.trans h1, h2⟩
theorem ranges_move {w w' : World} {P : Program} {K : TypeId} {b r n : Nat} {D0 : DataW Value} {left : Lit → Bool} {cnt : Nat} (h : w.ranges P K RR b r n D0 left cnt) (hb : w'.heap[b]? = w.heap[b]?) (hr : w'.heap[r]? = w.heap[r]?) : w'.ranges P K RR b r n D0 left cnt := by
  obtain ⟨es, cl, since, seen, c0, h1, h2, h3, h4, h5, h6⟩ := h
  exact ⟨es, cl, since, seen, c0, hb.trans h1, h2, h3, h4, hr.trans h5, h6⟩
theorem Mp.at_key {w : World} {P : Program} {K : TypeId} {b n : Nat} {f : Bs → Option Value} {D0 : DataW Value} (h : Mp w b f) (hK : P.underlying K = some .string) (ho : w.ownsMap P K RR b n D0) {x : Bs} {v : Value} (hx : f x = some v) (hl : x.length ≤ 1000000) (zd : DataW Value) :
    D0.atKey (.string x) zd = .held v := by
  obtain ⟨es, cl, hb, hs, h3, h4⟩ := h
  obtain ⟨es', cl', hb', F, hn, rfl⟩ := ho
  rw [hb] at hb'
  injection hb' with hb'
  injection hb' with e1 e2
  subst e1 e2
  obtain ⟨e, he, k1, k2⟩ := (h4 x v).1 hx
  have hk : keyOf P K (kS x) = some (.string x) := by
    have := Go.WideMaps.keyOf_string_mk (s := ⟨x.toArray⟩) hK (by show x.toArray.size ≤ maxLen; rw [List.size_toArray]; unfold maxLen; omega)
    rw [this]
  exact Go.WideElems.atKey_some (WideMaps.string_law hK) F hk he k1 (z := (.held v, [])) (by rw [k2]; rfl) zd
/-- what is gathered, where so many have come -/
structure LkO (w : World) (p : Pc) (D : List Nd) (q n : Nat) (D0 : DataW Value) (left : Lit → Bool) (cnt : Nat) (l : List Bs) (wr : World) : Prop where
  low : Below w.heap.size w wr
  rg : wr.ranges Try.prog tId RR p.c (q + 1) n D0 left cnt
  mp : Mp wr q fun k => if k ∈ l then some unV else none
  sz : q + 2 ≤ wr.heap.size
  mem : ∀ y, y ∈ l ↔ get D y = none ∧ ∃ x, waits D x = true ∧ left (.string x) = false ∧ y ∈ psL D x
/-- within one's parents -/
structure LkI (w : World) (p : Pc) (D : List Nd) (q n : Nat) (D0 : DataW Value) (left : Lit → Bool) (cnt : Nat) (l : List Bs) (ps : List Bs) (k : Nat) (wr : World) : Prop where
  low : Below w.heap.size w wr
  rg : wr.ranges Try.prog tId RR p.c (q + 1) n D0 left cnt
  mp : ∃ l' : List Bs, Mp wr q (fun k => if k ∈ l' then some unV else none) ∧ ∀ y, y ∈ l' ↔ y ∈ l ∨ (y ∈ ps.take k ∧ get D y = none)
  sz : q + 2 ≤ wr.heap.size
theorem LkI.grow {w : World} {p : Pc} {D : List Nd} {q n : Nat} {D0 : DataW Value} {left : Lit → Bool} {cnt : Nat} {l ps : List Bs} {k : Nat} {wr w2 : World} (h : LkI w p D q n D0 left cnt l ps k wr) (hq : q = w.heap.size) (hpc : p.c < q) (hb : Below wr.heap.size wr w2) : LkI w p D q n D0 left cnt l ps k w2 := by
  obtain ⟨l', h1, h2⟩ := h.mp
  have := h.sz
  exact ⟨h.low.trans (hb.mono h.low.size), ranges_move h.rg (hb.block _ (by omega)) (hb.block _ (by omega)), ⟨l', h1.move (hb.block _ (by omega)), h2⟩, Nat.le_trans h.sz hb.size⟩
/-- one that is known -/
theorem LkI.skip {w : World} {p : Pc} {D : List Nd} {q n : Nat} {D0 : DataW Value} {left : Lit → Bool} {cnt : Nat} {l ps : List Bs} {k : Nat} {wr : World} (h : LkI w p D q n D0 left cnt l ps k wr) {x : Bs} (hx : ps[k]? = some x) (hk : (get D x).isSome = true) : LkI w p D q n D0 left cnt l ps (k + 1) wr := by
  obtain ⟨l', h1, h2⟩ := h.mp
  refine ⟨h.low, h.rg, ⟨l', h1, fun y => ?_⟩, h.sz⟩
  rw [h2, List.take_add_one, hx]
  simp only [Option.toList_some, List.mem_append, List.mem_singleton]
  constructor
  · rintro (h | h)
    · exact .inl h
    · exact .inr ⟨.inl h.1, h.2⟩
  · rintro (h | ⟨h | rfl, h2⟩)
    · exact .inl h
    · exact .inr ⟨h, h2⟩
    · rw [h2] at hk; cases hk
/-- one that isn't -/
theorem LkI.put {w : World} {p : Pc} {D : List Nd} {q n : Nat} {D0 : DataW Value} {left : Lit → Bool} {cnt : Nat} {l ps : List Bs} {k : Nat} {wr : World} (h : LkI w p D q n D0 left cnt l ps k wr) (hq : q = w.heap.size) (hpc : p.c < q) {x : Bs} (hx : ps[k]? = some x) (hk : get D x = none) :
    ∃ o, (Instr.mapUpdate tMH (.map (some q)) (kS x) unV).run Try.prog wr = .ok () (wr.putObj q o) ∧ LkI w p D q n D0 left cnt l ps (k + 1) (wr.putObj q o) := by
  obtain ⟨l', h1, h2⟩ := h.mp
  obtain ⟨o, hup, hm⟩ := h1.update (P := Try.prog) (T := tMH) Try.underlying58 Try.underlying23 x unV
  have ho : ∀ k, k ≠ q → (wr.putObj q o).heap[k]? = wr.heap[k]? := fun k hk => World.putObj_heap_other hk
  have hs : (wr.putObj q o).heap.size = wr.heap.size := by simp [World.putObj]
  refine ⟨o, hup, ⟨h.low.os, h.low.tape, h.low.output, by rw [hs]; exact h.low.size, fun k hk => (ho k (by omega)).trans (h.low.block k hk)⟩, ranges_move h.rg (ho _ (by omega)) (ho _ (by omega)), ⟨x :: l', hm.congr fun y => ?_, fun y => ?_⟩, by rw [hs]; exact h.sz⟩
  · by_cases e : y = x
    · subst e; rw [upd_same, if_pos List.mem_cons_self]
    · rw [upd_ne _ _ e]
      simp [e]
  · rw [List.mem_cons, h2, List.take_add_one, hx]
    simp only [Option.toList_some, List.mem_append, List.mem_singleton]
    constructor
    · rintro (rfl | h | h)
      · exact .inr ⟨.inr rfl, hk⟩
      · exact .inl h
      · exact .inr ⟨.inl h.1, h.2⟩
    · rintro (h | ⟨h | rfl, h2⟩)
      · exact .inr (.inl h)
      · exact .inr (.inr ⟨h, h2⟩)
      · exact .inl rfl
set_option maxRecDepth 100000 in
set_option maxHeartbeats 2000000 in
theorem placks_any {w : World} {p : Pc} {D : List Nd} {sl : Bs → Option Addr × Nat} {su lev : Bs → Nat} {bh : Bs → List Bs} {bv : Bs → Option Value} (h : Gm w p D sl su lev bh bv) (hK : Okd D) :
    Calls Try.prog 18 #[pt p.g] w fun y w' => ∃ v, y = .returned v ∧ OwT w' w.heap.size tId v (lacks D) ∧ Below w.heap.size w w' := by
  obtain ⟨_, _, c0, _⟩ := h.cells
  have hu := all_up hK.inv.up false
  obtain ⟨D0, hown, hhas, _, _⟩ := h.mW.owns (P := Try.prog) (K := tId) Try.underlying23 (all D false) (fun k hk => by
    have hw : waits D k = true := by cases hw : waits D k with
      | true => rfl
      | false => rw [hw] at hk; cases hk
    refine ⟨(all_wait hK.inv.up k).2 hw, ?_⟩
    have := ids_short hK (known_if.2 (.inr hw)); omega) (by have := hK.few_all false; omega)
  have hhas2 : ∀ x, Maps.has D0 (.string x) = waits D x := fun x => by
    have := hhas x
    cases hw : waits D x with
    | true => rw [hw] at this; exact this.2 rfl
    | false =>
      rw [hw] at this
      cases hh : Maps.has D0 (.string x) with
      | true => exact absurd (this.1 hh) (by simp)
      | false => rfl
  obtain ⟨n, hn⟩ : ∃ n, n = (all D false).length := ⟨_, rfl⟩
  rw [← hn] at hown
  obtain ⟨q, hq⟩ : ∃ q, q = w.heap.size := ⟨_, rfl⟩
  have hpc : p.c < q := by rw [hq]; exact h.lt _ (.inl (.inr (.inr (.inr (.inl rfl)))))
  obtain ⟨w1, hw1⟩ : ∃ z, z = w.alloc (.map #[] 0) := ⟨_, rfl⟩
  have hb1 : Below w.heap.size w w1 := by rw [hw1]; exact (Below.refl _ w).alloc (Nat.le_refl _) _
  have hm1 : Mp w1 q fun _ => none := by rw [hw1, hq]; exact Mp.made w
  have hs1 : w1.heap.size = q + 1 := by rw [hw1, hq]; simp
  have hown1 : w1.ownsMap Try.prog tId RR p.c n D0 := own_move hown (hb1.block _ (by omega))
  have hmk : (Instr.makeMap tMH none).run Try.prog w = .ok (.map (some q)) w1 := by rw [run_makeMap, hq, hw1]
  have c1 : w1.cell? ⟨p.g, 2, none⟩ = some (.map (some p.c)) := (h.below hb1).cells.2.2.1
  clear hw1
  have H := hide h
  have HK := hide hK
  have HHas := hide hhas2
  have HOwn := hide hown
  have HPc := hide hpc
  have HQ := hide hq
  have HB1 := hide hb1
  have HM1 := hide hm1
  have HS1 := hide hs1
  clear h hK hhas hhas2 hown hpc hu hn hb1 hm1 hq hs1
  go_enter Try.func18, Try.ntmps18
  go_wp2_with (at_range; refine wpList_range_own _ rfl _ tMW rfl tId 65 (string_keyed Try.underlying23) Try.underlying59 _ p.c n D0 rfl hown1 ?_; intro w0 hrg0 hg0 hs0)
  go_frame
  rw [HS1.out] at hrg0 hs0 ⊢
  have hs1 := HS1.out
  have hO0 : LkO w p D q n D0 (Maps.has D0) (Maps.size D0) [] w0 := by
    refine ⟨HB1.out.trans ⟨hg0.os, hg0.tape, hg0.output, hg0.size, fun k hk => hg0.block k (by have := HQ.out; omega) (by simp)⟩, hrg0, ?_, by omega, fun y => ?_⟩
    · exact (HM1.out.move (hg0.block q (by omega) (by simp))).congr fun k => by simp
    · simp only [List.not_mem_nil, false_iff]
      rintro ⟨_, x, h1, h2, _⟩
      rw [HHas.out x, h1] at h2
      cases h2
  have HO0 := hide hO0
  clear hO0 hrg0 hg0 hs0 hown1 hs1 c0 c1 hmk
  go_loopw [21] (fun _ wr => ∃ left cnt l, Hid (LkO w p D q n D0 left cnt l wr)) (fun _ wr => wr.rangeLeft p.c (q + 1))
  case atStart => exact ⟨_, _, _, HO0⟩
  case round =>
    clear HO0
    obtain ⟨left, cnt, l, HO⟩ := hrel
    have hrg := HO.out.rg
    go_wp2_with (at_next; refine wpList_next_ranges _ rfl _ rfl tId (string_keyed Try.underlying23) RR encStr (fun z : Value => z) (fun key kl hk => by obtain ⟨x, hx, _⟩ := Maps.keyOf_str Try.underlying23 hk; exact ⟨x, hx⟩) (fun v _ _ => ⟨v, rfl⟩) p.c (q + 1) n _ _ _ rfl hrg ?_ ?_)
    · intro hc0 hl0
      have hL : ∀ y, y ∈ l ↔ y ∈ lacks D := fun y => by
        rw [lacks_mem HK.out.inv.up, HO.out.mem]
        exact ⟨fun ⟨h1, x, h2, _, h3⟩ => ⟨h1, x, h2, h3⟩, fun ⟨h1, x, h2, h3⟩ => ⟨h1, x, h2, hl0 _, h3⟩⟩
      have hR := risingU_any HO.out.mp (lacks D) (up_nodup (lacks_sorted D)) (fun k => by rw [← hL]; by_cases e : k ∈ l <;> simp [e]) (fun k hk => by have := lacks_short HK.out hk; omega) (by have := lacks_few HK.out; omega)
      rw [srt_up_id (lacks_sorted D)] at hR
      have HR := hide hR
      have HLow := hide HO.out.low
      have HSz := hide HO.out.sz
      clear hL hR hrg hl0 hc0 HO
      go_wp2_with fail
      refine HR.out.mono ?_
      rintro y w3 ⟨v, rfl, h1, h2⟩
      have H1 := hide (ownsRow_low h1 HLow.out.size)
      have H2 := hide (HLow.out.trans (h2.mono HLow.out.size))
      clear h1 h2 HR
      go_wp2
      go_ret
      exact ⟨_, rfl, H1.out, H2.out⟩
    · intro x0 c kl yd yp w2 cnt2 hkey hlk hv hat hrg2 hlt hg2 hs2 hen
      obtain ⟨x, ex, rfl, hxl⟩ := Maps.keyOf_str Try.underlying23 hkey
      obtain rfl : x0 = x := encStr_inj ex
      have hwx : waits D x0 = true := by rw [← HHas.out]; exact Maps.has_true_of_atKey hat
      have hcv : c = ndV (sl x0) (psL D x0) (su x0) := by
        have h1 := H.out.mW.at_key (P := Try.prog) (K := tId) Try.underlying23 HOwn.out (x := x0) (v := ndV (sl x0) (psL D x0) (su x0)) (by simp [hwx]) (by have := ids_short HK.out (known_if.2 (.inr hwx)); omega) (.held (.bool true))
        rw [hat] at h1
        unfold RR at hv
        injection hv with hv
        injection hv with hv
        rw [← hv] at h1
        injection h1
      subst hcv
      have hps6 : (psL D x0).length ≤ 10 := by
        obtain ⟨m, hm⟩ := Option.isSome_iff_exists.1 (known_if.2 (.inr hwx))
        unfold psL; rw [hm]
        exact (HK.out.ids m (get_some hm).1).2.1
      have HVs := hide (vs_low (H.out.sls x0 (known_if.2 (.inr hwx))))
      have hI0 : LkI w p D q n D0 (fun z => left z && !z.sameKey (.string x0)) cnt2 l (psL D x0) 0 w2 := by
        have hq := HQ.out
        have hpc := HPc.out
        have := HO.out.sz
        refine ⟨⟨hg2.os.trans HO.out.low.os, hg2.tape.trans HO.out.low.tape, hg2.output.trans HO.out.low.output, Nat.le_trans HO.out.low.size hg2.size, fun k hk => (hg2.block k (by omega) (by simp; omega)).trans (HO.out.low.block k hk)⟩, hrg2, ⟨l, HO.out.mp.move (hg2.block q (by omega) (by simp)), fun y => by simp⟩, by omega⟩
      -- the round's end, as a whole
      have hEnd : ∀ w4, LkI w p D q n D0 (fun z => left z && !z.sameKey (.string x0)) cnt2 l (psL D x0) (psL D x0).length w4 → (∃ left cnt l, Hid (LkO w p D q n D0 left cnt l w4)) ∧ w4.rangeLeft p.c (q + 1) < wr.rangeLeft p.c (q + 1) := fun w4 h4 => by
        obtain ⟨l', h5, h6⟩ := h4.mp
        refine ⟨⟨_, cnt2, l', hide ⟨h4.low, h4.rg, h5, h4.sz, fun y => ?_⟩⟩, by rw [h4.rg.left_eq, hrg.left_eq]; exact hlt⟩
        rw [h6, HO.out.mem, List.take_length]
        constructor
        · rintro (⟨h1, x, h2, h3, h7⟩ | ⟨h1, h2⟩)
          · exact ⟨h1, x, h2, by simp [h3], h7⟩
          · exact ⟨h2, x0, hwx, by simp [Lit.sameKey], h1⟩
        · rintro ⟨h1, x, h2, h3, h7⟩
          by_cases e : x = x0
          · subst e; exact .inr ⟨h7, h1⟩
          · refine .inl ⟨h1, x, h2, ?_, h7⟩
            simpa [Lit.sameKey, e] using h3
      have HEnd := hide hEnd
      have hf := fun w => fldW0 (sl x0).1 (psL D x0).length (sl x0).2 (su x0) w
      have hen2 : (Instr.entry (.pointer (some ⟨q + 1, 0, none⟩))).run Try.prog w2 = .ok (.tuple #[kS x0, .agg #[.slice (sl x0).1 (psL D x0).length (sl x0).2, .int .i64 (su x0)]]) w2 := hen
      have HI0 := hide hI0
      obtain ⟨xv, hxv⟩ : ∃ z, z = (su x0 : Int) := ⟨_, rfl⟩
      obtain ⟨ps, hpse⟩ : ∃ z, z = psL D x0 := ⟨_, rfl⟩
      rw [← hpse] at HVs HEnd hf hen2 HI0 hps6
      rw [← hxv] at hf hen2
      obtain ⟨N, hN⟩ : ∃ z, z = ps.length := ⟨_, rfl⟩
      rw [← hN] at hf hen2 hps6
      obtain ⟨A, hA⟩ : ∃ z, z = (sl x0).1 := ⟨_, rfl⟩
      obtain ⟨C, hC⟩ : ∃ z, z = (sl x0).2 := ⟨_, rfl⟩
      rw [← hA, ← hC] at hf hen2 HVs
      rw [show ndV (sl x0) (psL D x0) (su x0) = .agg #[.slice A N C, .int .i64 xv] from by rw [hN, hpse, hA, hC, hxv]; rfl]
      have HN := hide hN
      clear hA hC
      clear hkey hlk hv hat hrg2 hlt hg2 hs2 hen hwx hrg hI0 hEnd hpse hxv hxl hN HO
      go_wp2
      obtain ⟨w3, hw3⟩ : ∃ z, z = w2.alloc (.cells #[.slice A N C, .int .i64 xv] 65) := ⟨_, rfl⟩
      have HI1 := hide (show LkI w p D q n D0 (fun z => left z && !z.sameKey (.string x0)) cnt2 l ps 0 w3 from HI0.out.grow HQ.out HPc.out (by rw [hw3]; exact (Below.refl _ w2).alloc (Nat.le_refl _) _))
      rw [← hw3]
      clear hw3 HI0 hen2 hf
      go_loopw [21] (fun vk wr2 => ∃ k : Nat, vk = .int .i64 k ∧ k ≤ N ∧ Hid (LkI w p D q n D0 (fun z => left z && !z.sameKey (.string x0)) cnt2 l ps k wr2)) (fun vk _ => N - (intOf vk).toNat)
      case atStart => exact ⟨0, rfl, Nat.zero_le _, HI1⟩
      case round =>
        clear HI1
        obtain ⟨k, rfl, hk, HL⟩ := hrel
        by_cases hlt : k < N
        · obtain ⟨ab, ao, rfl, ck⟩ := vs_text (w' := w) HVs.out (Below.refl _ _) (k := k) (by have := HN.out; omega)
          have hab : ab < w.heap.size := World.block_lt_of_cell? w ⟨ab, ao + k, none⟩ ck
          obtain ⟨x, hx⟩ : ∃ x, x = ps.getD k [] := ⟨_, rfl⟩
          have hxm : ps[k]? = some x := by rw [hx, List.getD_eq_getElem?_getD, List.getElem?_eq_getElem (by have := HN.out; omega)]; rfl
          rw [← hx] at ck
          have ck' := (HL.out.low.cell (p := ⟨ab, ao + k, none⟩) hab).trans ck
          have hH := phas_any (H.out.below HL.out.low) x
          have HXm := hide hxm
          cases hdx : has D x with
          | true =>
            rw [hdx] at hH
            have HH := hide hH
            have HKn := hide (has_known hdx)
            clear hH hdx hx hxm ck hab
            go_wp2_with fail
            refine HH.out.mono ?_
            rintro y w4 ⟨rfl, hb⟩
            have HF := hide ((HL.out.grow HQ.out HPc.out hb).skip HXm.out HKn.out)
            clear hb HH
            go_wp2
            exact ⟨⟨k + 1, by go_num, by omega, HF⟩, by simp [intOf]; omega⟩
          | false =>
            rw [hdx] at hH
            have HH := hide hH
            have HDx := hide hdx
            clear hH hdx hx hxm ck hab
            go_wp2_with fail
            refine HH.out.mono ?_
            rintro y w4 ⟨rfl, hb⟩
            have hL4 := HL.out.grow HQ.out HPc.out hb
            have hW := pwaits_any (H.out.below hL4.low) x
            have HL4 := hide hL4
            clear hb HH hL4
            cases hwx : waits D x with
            | true =>
              rw [hwx] at hW
              have HW := hide hW
              have HKn := hide (known_if.2 (.inr hwx))
              clear hW hwx
              go_wp2_with fail
              refine HW.out.mono ?_
              rintro y w5 ⟨rfl, hb⟩
              have HF := hide ((HL4.out.grow HQ.out HPc.out hb).skip HXm.out HKn.out)
              clear hb HW
              go_wp2
              exact ⟨⟨k + 1, by go_num, by omega, HF⟩, by simp [intOf]; omega⟩
            | false =>
              rw [hwx] at hW
              have HW := hide hW
              have hg : get D x = none := by
                cases hg : get D x with
                | none => rfl
                | some m => have := known_if.1 (show (get D x).isSome = true by rw [hg]; rfl); rw [HDx.out, hwx] at this; simp at this
              have HG := hide hg
              clear hW hwx hg
              go_wp2_with fail
              refine HW.out.mono ?_
              rintro y w5 ⟨rfl, hb⟩
              obtain ⟨o, hup, hF⟩ := (HL4.out.grow HQ.out HPc.out hb).put HQ.out HPc.out HXm.out HG.out
              have HF := hide hF
              unfold unV at hup
              clear hb HW hF
              go_wp2
              exact ⟨⟨k + 1, by go_num, by omega, HF⟩, by simp [intOf]; omega⟩
        · obtain rfl : k = N := by omega
          have HF := hide (HEnd.out _ (by have := HL.out; rw [HN.out] at this; exact this))
          go_wp2
          exact HF.out
end Go.Proofs.Ytplmcpdlommmaaa.Dq
