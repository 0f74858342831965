/-
  A hunk that is being written; hunk.Turn.
-/
import Derived.Test.YtfmmececocilhaaHF

namespace Go.Proofs.Ytfmmececocilhaa.Hu
open Go Go.RowKit Kt Lw Li Df

theorem owt_off {w : World} {B : Nat} {v : Value} {l : Ls} (h : OwT w B tS v l) {g i : Nat} (hg : ∀ b, v.ownBlock = some b → b ≠ g) (u : Value) : OwT (w.setCell ⟨g, i, none⟩ u) B tS v l := by
  refine ⟨h.1, ?_⟩
  rcases h.2 with ⟨h1, h2⟩ | ⟨g', cap, cur, hv', h1, h2, h3⟩
  · exact .inl ⟨h1, h2⟩
  · exact .inr ⟨g', cap, cur, hv', h1, (Below.heap_setCell w ⟨g, i, none⟩ u g' (hg g' (by rw [hv']; rfl))).trans h2, h3⟩
theorem row_ne {w : World} {B g : Nat} {t : TypeId} {cs : List Value} {v : Value} {l : Ls} (hrow : Row w g t cs) (ht : t ≠ tS) (h : OwT w B tS v l) : ∀ b, v.ownBlock = some b → b ≠ g := by
  intro b hb e
  subst e
  rcases h.2 with ⟨rfl, _⟩ | ⟨g', cap, cur, rfl, _, hg', _⟩
  · cases hb
  · simp only [Value.ownBlock, Option.some.injEq] at hb
    subst hb
    unfold Row at hrow
    rw [hg'] at hrow
    simp only [Option.some.injEq, Obj.cells.injEq] at hrow
    exact ht hrow.2.1.symm
theorem owt_base {w : World} {B B' : Nat} {v : Value} {l : Ls} (h : OwT w B tS v l) (hb : B' ≤ B) : OwT w B' tS v l :=
  ⟨h.1, h.2.imp id fun ⟨g, cap, cur, hv', h1, h2⟩ => ⟨g, cap, cur, hv', Nat.le_trans hb h1, h2⟩⟩
theorem owt_form {w : World} {B : Nat} {v : Value} {l : Ls} (h : OwT w B tS v l) : ∃ A n c, v = .slice A n c := by
  obtain ⟨A, c, h, _⟩ := h.vs
  exact ⟨A, _, c, h⟩
theorem tP_ne : tP ≠ tS := by decide
theorem tH_ne : tH ≠ tS := by decide
/-- in the world wr the block g is a hunk whose lines, L, are a row of the call's own; w: the world at the call's start, wp: where the row was begun -/
structure HS (w wp wr : World) (g : Nat) (x0 x1 x2 x3 v : Value) (L : Ls) : Prop where
  row : Row wr g tH [x0, x1, x2, x3, v]
  own : OwT wr wp.heap.size tS v L
  far : wp.grownBy wr (some g)
  low : Below w.heap.size w wr
  lt : w.heap.size ≤ g ∧ g < wp.heap.size
section
variable {w wp wr w1 : World} {g : Nat} {x0 x1 x2 x3 v : Value} {L : Ls}
theorem HS.more (h : HS w wp wr g x0 x1 x2 x3 v L) (hb : Below wr.heap.size wr w1) : HS w wp w1 g x0 x1 x2 x3 v L :=
  ⟨h.row.below hb h.row.lt, h.own.kept hb, grown_more h.far ⟨hb.os, hb.tape, hb.output, hb.size, fun k hk _ => hb.block k hk⟩ (.inl rfl), h.low.trans (hb.mono h.low.size), h.lt⟩
theorem HS.drew (h : HS w wp wr g x0 x1 x2 x3 v L) : HS w wp wr.drew g x0 x1 x2 x3 v L := h.more ((Below.refl _ wr).drew)
theorem HS.ne (h : HS w wp wr g x0 x1 x2 x3 v L) : ∀ b, v.ownBlock = some b → b ≠ g := row_ne h.row tH_ne h.own
theorem HS.cells (h : HS w wp wr g x0 x1 x2 x3 v L) : wr.cell? ⟨g, 0, none⟩ = some x0 ∧ wr.cell? ⟨g, 1, none⟩ = some x1 ∧ wr.cell? ⟨g, 2, none⟩ = some x2 ∧ wr.cell? ⟨g, 3, none⟩ = some x3 ∧ wr.cell? ⟨g, 4, none⟩ = some v ∧ wr.frozen? ⟨g, 4, none⟩ = false :=
  ⟨h.row.cell 0, h.row.cell 1, h.row.cell 2, h.row.cell 3, h.row.cell 4, h.row.free 4⟩
theorem HS.grown (h : HS w wp wr g x0 x1 x2 x3 v L) (hg : wr.grownBy w1 v.ownBlock) : Row w1 g tH [x0, x1, x2, x3, v] :=
  h.row.grown hg (fun e => h.ne g e.symm rfl)
theorem HS.step (h : HS w wp wr g x0 x1 x2 x3 v L) {v1 : Value} {L1 : Ls} (ho : OwT w1 wp.heap.size tS v1 L1) (hg : wr.grownBy w1 v.ownBlock) : HS w wp (w1.setCell ⟨g, 4, none⟩ v1) g x0 x1 x2 x3 v1 L1 := by
  have hr1 := h.grown hg
  have hfar : wp.grownBy w1 (some g) := by
    refine ⟨hg.os.trans h.far.os, hg.tape.trans h.far.tape, hg.output.trans h.far.output, Nat.le_trans h.far.size hg.size, fun k hk hne => (hg.block k (Nat.lt_of_lt_of_le hk h.far.size) ?_).trans (h.far.block k hk hne)⟩
    intro e
    have := (World.ownsRow.lt h.own k e.symm).1
    omega
  have hlow : Below w.heap.size w w1 := h.low.grown hg h.low.size fun k hk => by
    have := (World.ownsRow.lt h.own k hk).1
    have := h.lt
    omega
  exact ⟨hr1.put 4 v1, owt_off ho (row_ne hr1 tH_ne ho) _, grown_put hfar v1, hlow.setCell (p := ⟨g, 4, none⟩) h.lt.1 _, h.lt⟩
/-- another block that is no row of texts stays -/
theorem HS.other (h : HS w wp wr g x0 x1 x2 x3 v L) {g' : Nat} {t : TypeId} {cs : List Value} (hrow : Row wr g' t cs) (ht : t ≠ tS) (hgg : g' ≠ g) (hg : wr.grownBy w1 v.ownBlock) (u : Value) : Row (w1.setCell ⟨g, 4, none⟩ u) g' t cs :=
  (hrow.grown hg (fun e => row_ne hrow ht h.own g' e.symm rfl)).off hgg u
end
theorem lay_swp_len : ∀ ps : List Pt, (lay (ps.map swp)).length = (lay ps).length
  | [] => rfl
  | p :: r => by
    rw [List.map_cons, lay_len, lay_len, lay_swp_len r]
    show p.st.length + (p.cm.length + (p.gn.length + _)) = _
    omega

set_option maxHeartbeats 1000000 in
set_option maxRecDepth 100000 in
theorem turn_any (ha han hb hbn : Int) (ps : List Pt) (hps : Good ps) (A : Option Addr) (c : Nat) (P : Nat → Prop) (w : World) (hs : Vs w P A c (texts (lay ps))) (hn : (lay ps).length ≤ 100000)
    (hx : ∀ x ∈ lay ps, x.length ≤ 9223372036854775807) (hr : hright ⟨ha, han, hb, hbn, lay ps⟩ = true) :
    Calls Try.prog 27 #[.agg #[.int .i64 ha, .int .i64 han, .int .i64 hb, .int .i64 hbn, .slice A (lay ps).length c]] w fun y w' => ∃ v, y = .returned (.agg #[.int .i64 hb, .int .i64 hbn, .int .i64 ha, .int .i64 han, v]) ∧ OwT w' w.heap.size tS v (lay (ps.map swp)) ∧ Below w.heap.size w w' := by
  have Hs := hide hs.bound
  have Hg := hide hps
  have Hn := hide hn
  have Hx := hide hx
  have HRt := hide (fun w1 (hb1 : Below w.heap.size w w1) => hright_any ha han hb hbn (lay ps) A c _ w1 (Lw.Vs.below hs.bound hb1) (by omega))
  rw [hr] at HRt
  have HPt := hide (fun w1 (hb1 : Below w.heap.size w w1) => parts_any ps hps A c _ w1 (Lw.Vs.below hs.bound hb1) (by omega))
  obtain ⟨N, hN⟩ : ∃ N, N = (lay ps).length := ⟨_, rfl⟩
  rw [← hN] at hn HRt HPt ⊢
  have HN := hide hN
  clear hs hps hN hx hr
  go_enter Try.func27, Try.ntmps27
  go_wp2_with fail
  obtain ⟨wa, hwa⟩ : ∃ wa, wa = (w.alloc (.cells #[.int .i64 ha, .int .i64 han, .int .i64 hb, .int .i64 hbn, .slice A N c] tH)).alloc (.cells #[.int .i64 0, .int .i64 0, .int .i64 0, .int .i64 0, .slice none 0 0] tH) := ⟨_, rfl⟩
  have hba : Below w.heap.size w wa := by rw [hwa]; exact ((Below.refl _ w).alloc (Nat.le_refl _) _).alloc (by simp) _
  have hr1 : Row wa w.heap.size tH [.int .i64 ha, .int .i64 han, .int .i64 hb, .int .i64 hbn, .slice A N c] := by rw [hwa]; exact (Row.fresh w tH _).alloc _
  have hr2 : Row wa (w.heap.size + 1) tH [.int .i64 0, .int .i64 0, .int .i64 0, .int .i64 0, .slice none 0 0] := by rw [hwa]; exact Row.new _ tH (by simp) rfl
  rw [← hwa]
  obtain ⟨g2, hg2⟩ : ∃ g2, g2 = w.heap.size + 1 := ⟨_, rfl⟩
  rw [← hg2] at hr2 ⊢
  have hg2w : w.heap.size ≤ g2 := by omega
  clear hwa hg2
  refine (HRt.out wa hba).mono ?_
  rintro y wb ⟨rfl, hbb⟩
  have hr1b := hr1.below hbb hr1.lt
  have hr2b := hr2.below hbb hr2.lt
  have Hbb := hide (hba.trans (hbb.mono hba.size))
  have HPt2 := hide (HPt.out)
  clear hba hr1 hr2 hbb HPt HRt
  have c0 := hr1b.cell 0
  have c1 := hr1b.cell 1
  have c2 := hr1b.cell 2
  have c3 := hr1b.cell 3
  have c4 := hr1b.cell 4
  simp only [List.getElem?_cons_zero, List.getElem?_cons_succ] at c0 c1 c2 c3 c4
  have c4' : ∀ o, (wb.alloc o).cell? ⟨w.heap.size, 4, none⟩ = some (.slice A N c) := fun o => (hr1b.alloc o).cell 4
  go_wp2_with fail
  obtain ⟨wc, hwc⟩ : ∃ wc, wc = wb.alloc (.cells #[.int .i64 hb, .int .i64 hbn, .int .i64 ha, .int .i64 han, .slice none 0 0] tH) := ⟨_, rfl⟩
  have hbc : Below wb.heap.size wb wc := by rw [hwc]; exact (Below.refl _ wb).alloc (Nat.le_refl _) _
  have hr3 : Row wc wb.heap.size tH [.int .i64 hb, .int .i64 hbn, .int .i64 ha, .int .i64 han, .slice none 0 0] := by rw [hwc]; exact Row.fresh wb tH _
  have hr2c := hr2b.below hbc hr2b.lt
  have hg23 : g2 < wb.heap.size := hr2b.lt
  rw [← hwc]
  have hwg3 : w.heap.size ≤ wb.heap.size := Hbb.out.size
  have Hbc := hide (Hbb.out.trans (hbc.mono hwg3))
  obtain ⟨g3, hg3⟩ : ∃ g3, g3 = wb.heap.size := ⟨_, rfl⟩
  rw [← hg3] at hr3 hwg3 hg23 ⊢
  clear hwc hbc hg3 c0 c1 c2 c3 c4 c4' hr1b hr2b
  refine (HPt2.out wc Hbc.out).mono ?_
  rintro y wp ⟨vp, rfl, hvp, hbp⟩
  obtain ⟨Ap, cp, rfl, hps⟩ := OwP.ps hvp
  have hlen := lay_ge ps Hg.out
  rw [← HN.out] at hlen
  have Hps := hide hps
  have hr2p := hr2c.below hbp hr2c.lt
  have h3p := hr3.below hbp hr3.lt
  have hg3c : g3 < wc.heap.size := hr3.lt
  have Hbp := hide (Hbc.out.trans (hbp.mono Hbc.out.size))
  have HT0 := hide (show HS w wp wp g3 (.int .i64 hb) (.int .i64 hbn) (.int .i64 ha) (.int .i64 han) (.slice none 0 0) [] from ⟨h3p, OwT.nil _ _ _, World.grownBy.refl _ _, Hbp.out, hwg3, h3p.lt⟩)
  have Hr2 := hide hr2p
  have Hsc := hide (show Below w.heap.size w wc from Hbc.out)
  obtain ⟨M, hM⟩ : ∃ M, M = ps.length := ⟨_, rfl⟩
  rw [← hM] at hlen ⊢
  have HM := hide hM
  clear hvp hbp hps hr2p h3p hr2c hr3 hM HPt2 Hbb Hbc
  go_wp2
  go_loopw [23] (fun i wr => ∃ (k : Nat) (v : Value), k ≤ M ∧ i = .int .i64 k ∧ HS w wp wr g3 (.int .i64 hb) (.int .i64 hbn) (.int .i64 ha) (.int .i64 han) v (lay ((ps.take k).map swp))) (fun i _ => M - (intOf i).toNat)
  case atStart => exact ⟨0, _, Nat.zero_le _, rfl, by simpa [lay] using HT0.out⟩
  case round =>
    obtain ⟨k, v, hk, rfl, hT⟩ := hrel
    have HT := hide hT
    clear hT
    by_cases hlt : k < M
    · have hT := HT.out
      obtain ⟨b, o, p, A1, c1, A2, c2, A3, c3, rfl, hpk, ⟨k0, k1, k2⟩, v1, v2, v3⟩ := Hps.out.at (w' := wr) (fun b h1 h2 => hT.far.block b h2 (fun e => by injection e with e; omega)) (k := k) (by have := HM.out; omega)
      have mv : ∀ {A c} {l : Ls}, Vs wc (fun b => b < w.heap.size) A c (texts l) → Vs wr (fun b => b < w.heap.size) A c (texts l) := fun h => Lw.Vs.move h fun b hb _ => (hT.low.block b hb).trans (Hsc.out.block b hb).symm
      have V1 := hide (mv v1)
      have V2 := hide (mv v2)
      have V3 := hide (mv v3)
      have Htk := hide (show ps.take (k + 1) = ps.take k ++ [p] by
        have h1 : k < ps.length := by have := HM.out; omega
        rw [List.take_succ_eq_append_getElem h1]
        rw [List.getElem?_eq_getElem h1] at hpk
        injection hpk with hpk
        rw [hpk])
      have hsplit : lay ps = lay (ps.take k) ++ (lay [p] ++ lay (ps.drop (k + 1))) := by
        conv => lhs; rw [← List.take_append_drop (k + 1) ps, Htk.out, lay_append, lay_append]
        rw [List.append_assoc]
      have Hbig := hide (show (lay ((ps.take k).map swp)).length + (p.st.length + (p.gn.length + p.cm.length)) ≤ 100000 by
        have h1 := Hn.out
        rw [hsplit, List.length_append, List.length_append, lay_len, show lay [] = [] from rfl] at h1
        rw [lay_swp_len]
        simp only [List.length_nil] at h1
        omega)
      have Hx1 := hide (show (∀ x ∈ p.gn, x.length ≤ 9223372036854775806) ∧ (∀ x ∈ p.cm, x.length ≤ 9223372036854775806) by
        have hin : ∀ y ∈ lay [p], y.length ≤ 9223372036854775807 := fun y hy => Hx.out y (by rw [hsplit]; exact List.mem_append_right _ (List.mem_append_left _ hy))
        refine ⟨fun x hx => ?_, fun x hx => ?_⟩
        · have := hin (45 :: x) (by simp [lay, layP, mk, hx])
          simp at this; omega
        · have := hin (43 :: x) (by simp [lay, layP, mk, hx])
          simp at this; omega)
      obtain ⟨X, hX⟩ : ∃ X, X = lay ((ps.take k).map swp) := ⟨_, rfl⟩
      rw [← hX] at Hbig HT
      have Hnx := hide (show lay ((ps.take (k + 1)).map swp) = ((X ++ mk 32 p.st) ++ mk 45 p.cm) ++ mk 43 p.gn by
        rw [Htk.out, List.map_append, lay_append, ← hX]
        simp [lay, layP, swp])
      obtain ⟨d0, d1, d2, d3, d4, d5⟩ := HT.out.cells
      clear hpk v1 v2 v3 mv hsplit hT hX
      obtain ⟨ls, hls⟩ : ∃ ls, ls = p.st.length := ⟨_, rfl⟩
      obtain ⟨lg, hlg⟩ : ∃ lg, lg = p.gn.length := ⟨_, rfl⟩
      obtain ⟨lc, hlc⟩ : ∃ lc, lc = p.cm.length := ⟨_, rfl⟩
      rw [← hls] at k0
      rw [← hlg] at k1
      rw [← hlc] at k2
      have Hls := hide hls
      have Hlg := hide hlg
      have Hlc := hide hlc
      clear hls hlg hlc
      have d4' : ∀ o, (wr.alloc o).cell? ⟨g3, 4, none⟩ = some v := fun o => (HT.out.row.alloc o).cell 4
      obtain ⟨wd, hwd⟩ : ∃ wd, wd = wr.alloc (.cells #[.slice A1 ls c1, .slice A2 lg c2, .slice A3 lc c3] tP) := ⟨_, rfl⟩
      have hbd : Below wr.heap.size wr wd := by rw [hwd]; exact (Below.refl _ wr).alloc (Nat.le_refl _) _
      have Hrowd := hide (show Row wd wr.heap.size tP [.slice A1 ls c1, .slice A2 lg c2, .slice A3 lc c3] by rw [hwd]; exact Row.fresh wr tP _)
      have HTd := hide (HT.out.more hbd)
      have Hg53 := hide (show wr.heap.size ≠ g3 by have := HT.out.row.lt; omega)
      have HWd := hide hwd
      have Hbd := hide hbd
      clear hwd hbd
      go_wp2_with (rw [← HWd.out]; refine wpList_catT rfl (.tmp 28) (.tmp 30) 22 rfl Try.underlying22 infoText wp.heap.size wd v X (mk 32 p.st) (fun b => b < w.heap.size) A1 c1 rfl (by rw [mk_len, ← Hls.out]; rfl) HTd.out.own (Lw.Vs.below V1.out Hbd.out) (by have := Hbig.out; rw [mk_len]; omega) (Below.refl _ _) (by have := HTd.out.far.size; omega) ?_; intro v4 w4 hown4 hb4 hg4; obtain ⟨A5, n5, c5, rfl⟩ := owt_form hown4; have e4 := (HTd.out.grown hg4).cell 4; have f4 := (HTd.out.grown hg4).free 4; simp only [List.getElem?_cons_zero, List.getElem?_cons_succ] at e4; have HT5 := hide (HTd.out.step hown4 hg4); have Hrow5 := hide (HTd.out.other Hrowd.out tP_ne Hg53.out hg4 (.slice A5 n5 c5)); clear hown4 hb4 hg4)
      obtain ⟨w5, hw5⟩ : ∃ w5, w5 = w4.setCell ⟨g3, 4, none⟩ (.slice A5 n5 c5) := ⟨_, rfl⟩
      rw [← hw5] at HT5 Hrow5 ⊢
      clear hw5 d0 d1 d2 d3 d4 d5 d4' k0 k1 k2
      have hc5 := HT5.out.cells
      have q4 : w5.cell? ⟨g3, 4, none⟩ = some (.slice A5 n5 c5) := hc5.2.2.2.2.1
      have q5 : w5.cell? ⟨wr.heap.size, 2, none⟩ = some (.slice A3 lc c3) := Hrow5.out.cell 2
      clear hc5
      refine Rg.wp_region_ord (fun w' => w'.cell? ⟨g3, 4, none⟩ = some (.slice A5 n5 c5) ∧ w'.cell? ⟨wr.heap.size, 2, none⟩ = some (.slice A3 lc c3)) [(0, true), (1, true), (2, true), (3, true), (4, false), (5, false), (6, true), (7, false)] (by kernel_rfl) (by kernel_rfl) ?_
      simp only [Rg.pick, List.map_cons, List.map_nil, List.getD_cons_zero, List.getD_cons_succ]
      iterate 4 (refine Rg.ord_quiet (v := ?_) rfl (fun w' hS => ?_) ⟨q4, q5⟩ ?_; rotate_left; (obtain ⟨s4, s5⟩ := hS; go_simp; with_reducible rfl); simp only [Act.put, List.setIfInBounds_toArray, List.set_cons_succ, List.set_cons_zero])
      refine Rg.ord_loud rfl (fun K hK => ?_)
      go_simp
      have HTn := hide HT5.out.drew
      have Hvn := hide (vs_drew (Lw.Vs.move V3.out fun b hb _ => (HT5.out.low.block b hb).trans (HT.out.low.block b hb).symm))
      rw [Hlc.out]
      refine (bare_any 43 p.cm A3 c3 _ w5.drew Hvn.out (by have := Hbig.out; omega)).mono ?_
      rintro y w6 ⟨v6, rfl, hown6, hb6⟩
      obtain ⟨A6, c6, rfl, hv6⟩ := OwT.vs hown6
      have HT6 := hide (HTn.out.more hb6)
      have hlt6 := Hrow5.out.lt
      have Hrow6 := hide (Hrow5.out.drew.below hb6 hlt6)
      have Hva := hide hv6
      clear q4 q5 Hvn hb6 hlt6 hown6 hv6
      have q4 : w6.cell? ⟨g3, 4, none⟩ = some (.slice A5 n5 c5) := HT6.out.cells.2.2.2.2.1
      have q5 : w6.cell? ⟨wr.heap.size, 2, none⟩ = some (.slice A3 p.cm.length c3) := by rw [← Hlc.out]; exact Hrow6.out.cell 2
      refine hK _ _ (fun _ => ⟨q4, by rw [Hlc.out]; exact q5⟩) ?_
      clear hK K
      try simp only [Act.put, List.setIfInBounds_toArray, List.set_cons_succ, List.set_cons_zero]
      refine Rg.ord_loud rfl (fun K hK => ?_)
      go_simp
      refine (add_any 45 (.inr (.inl rfl)) wp.heap.size (.slice A5 n5 c5) (X ++ mk 32 p.st) p.cm A6 c6 _ w6 HT6.out.own Hva.out (by have := HT6.out.far.size; omega) (by have := Hbig.out; simp only [List.length_append, mk_len]; omega) (by have := Hbig.out; omega) (fun b hb e => by have := (World.ownsRow.lt HTn.out.own b e.symm).2; omega) Hx1.out.2).mono ?_
      rintro y w7 ⟨v7, rfl, hown7, hb7, hg7, _⟩
      obtain ⟨A8, n8, c8, rfl⟩ := owt_form hown7
      have e4 := (HT6.out.grown hg7).cell 4
      have f4 := (HT6.out.grown hg7).free 4
      have r5 := (Hrow6.out.grown hg7 (fun e => row_ne Hrow6.out tP_ne HT6.out.own wr.heap.size e.symm rfl)).cell 2
      simp only [List.getElem?_cons_zero, List.getElem?_cons_succ] at e4 r5
      have HT8p := hide (HT6.out.step hown7 hg7)
      have Hrow8p := hide (HT6.out.other Hrow6.out tP_ne Hg53.out hg7 (.slice A8 n8 c8))
      clear q4 q5 hown7 hb7 hg7
      refine hK _ _ (fun _ => ⟨e4, r5⟩) ?_
      clear hK K
      try simp only [Act.put, List.setIfInBounds_toArray, List.set_cons_succ, List.set_cons_zero]
      iterate 1 (refine Rg.ord_quiet (v := ?_) rfl (fun w' hS => ?_) ⟨e4, r5⟩ ?_; rotate_left; (obtain ⟨s4, s5⟩ := hS; go_simp; with_reducible rfl); simp only [Act.put, List.setIfInBounds_toArray, List.set_cons_succ, List.set_cons_zero])
      refine Rg.ord_loud rfl (fun K hK => ?_)
      go_simp
      refine hK _ _ (fun hf => absurd (show Rg.sink _ 7 = true from by kernel_rfl) (by rw [hf]; decide)) ?_
      clear hK K e4 f4 r5
      obtain ⟨w8, hw8⟩ : ∃ w8, w8 = w7.setCell ⟨g3, 4, none⟩ (.slice A8 n8 c8) := ⟨_, rfl⟩
      rw [← hw8] at HT8p Hrow8p ⊢
      have HT8 := HT8p
      have Hrow8 := Hrow8p
      clear hw8 HT8p Hrow8p HTn Hva HT6 Hrow6 HT5 Hrow5
      refine Rg.ord_nil ?_
      go_wp2_with fail
      have hc8 := HT8.out.cells
      have q4 : w8.cell? ⟨g3, 4, none⟩ = some (.slice A8 n8 c8) := hc8.2.2.2.2.1
      have q5 : w8.cell? ⟨wr.heap.size, 1, none⟩ = some (.slice A2 lg c2) := Hrow8.out.cell 1
      clear hc8
      refine Rg.wp_region_ord (fun w' => w'.cell? ⟨g3, 4, none⟩ = some (.slice A8 n8 c8) ∧ w'.cell? ⟨wr.heap.size, 1, none⟩ = some (.slice A2 lg c2)) [(0, true), (1, true), (2, true), (3, true), (4, false), (5, false), (6, true), (7, false)] (by kernel_rfl) (by kernel_rfl) ?_
      simp only [Rg.pick, List.map_cons, List.map_nil, List.getD_cons_zero, List.getD_cons_succ]
      iterate 4 (refine Rg.ord_quiet (v := ?_) rfl (fun w' hS => ?_) ⟨q4, q5⟩ ?_; rotate_left; (obtain ⟨s4, s5⟩ := hS; go_simp; with_reducible rfl); simp only [Act.put, List.setIfInBounds_toArray, List.set_cons_succ, List.set_cons_zero])
      refine Rg.ord_loud rfl (fun K hK => ?_)
      go_simp
      have HTn := hide HT8.out.drew
      have Hvn := hide (vs_drew (Lw.Vs.move V2.out fun b hb _ => (HT8.out.low.block b hb).trans (HT.out.low.block b hb).symm))
      rw [Hlg.out]
      refine (bare_any 45 p.gn A2 c2 _ w8.drew Hvn.out (by have := Hbig.out; omega)).mono ?_
      rintro y w9 ⟨v9, rfl, hown9, hb9⟩
      obtain ⟨A9, c9, rfl, hv9⟩ := OwT.vs hown9
      have HT9 := hide (HTn.out.more hb9)
      have hlt9 := Hrow8.out.lt
      have Hrow9 := hide (Hrow8.out.drew.below hb9 hlt9)
      have Hva := hide hv9
      clear q4 q5 Hvn hb9 hlt9 hown9 hv9
      have q4 : w9.cell? ⟨g3, 4, none⟩ = some (.slice A8 n8 c8) := HT9.out.cells.2.2.2.2.1
      have q5 : w9.cell? ⟨wr.heap.size, 1, none⟩ = some (.slice A2 p.gn.length c2) := by rw [← Hlg.out]; exact Hrow9.out.cell 1
      refine hK _ _ (fun _ => ⟨q4, by rw [Hlg.out]; exact q5⟩) ?_
      clear hK K
      try simp only [Act.put, List.setIfInBounds_toArray, List.set_cons_succ, List.set_cons_zero]
      refine Rg.ord_loud rfl (fun K hK => ?_)
      go_simp
      refine (add_any 43 (.inr (.inr rfl)) wp.heap.size (.slice A8 n8 c8) ((X ++ mk 32 p.st) ++ mk 45 p.cm) p.gn A9 c9 _ w9 HT9.out.own Hva.out (by have := HT9.out.far.size; omega) (by have := Hbig.out; simp only [List.length_append, mk_len]; omega) (by have := Hbig.out; omega) (fun b hb e => by have := (World.ownsRow.lt HTn.out.own b e.symm).2; omega) Hx1.out.1).mono ?_
      rintro y w10 ⟨v10, rfl, hown10, hb10, hg10, _⟩
      obtain ⟨A11, n11, c11, rfl⟩ := owt_form hown10
      have e4 := (HT9.out.grown hg10).cell 4
      have f4 := (HT9.out.grown hg10).free 4
      have r5 := (Hrow9.out.grown hg10 (fun e => row_ne Hrow9.out tP_ne HT9.out.own wr.heap.size e.symm rfl)).cell 1
      simp only [List.getElem?_cons_zero, List.getElem?_cons_succ] at e4 r5
      have HT11p := hide (HT9.out.step hown10 hg10)
      have Hrow11p := hide (HT9.out.other Hrow9.out tP_ne Hg53.out hg10 (.slice A11 n11 c11))
      clear q4 q5 hown10 hb10 hg10
      refine hK _ _ (fun _ => ⟨e4, r5⟩) ?_
      clear hK K
      try simp only [Act.put, List.setIfInBounds_toArray, List.set_cons_succ, List.set_cons_zero]
      iterate 1 (refine Rg.ord_quiet (v := ?_) rfl (fun w' hS => ?_) ⟨e4, r5⟩ ?_; rotate_left; (obtain ⟨s4, s5⟩ := hS; go_simp; with_reducible rfl); simp only [Act.put, List.setIfInBounds_toArray, List.set_cons_succ, List.set_cons_zero])
      refine Rg.ord_loud rfl (fun K hK => ?_)
      go_simp
      refine hK _ _ (fun hf => absurd (show Rg.sink _ 7 = true from by kernel_rfl) (by rw [hf]; decide)) ?_
      clear hK K e4 f4 r5
      obtain ⟨w11, hw11⟩ : ∃ w11, w11 = w10.setCell ⟨g3, 4, none⟩ (.slice A11 n11 c11) := ⟨_, rfl⟩
      rw [← hw11] at HT11p Hrow11p ⊢
      have HT11 := HT11p
      have Hrow11 := Hrow11p
      clear hw11 HT11p Hrow11p HTn Hva HT9 Hrow9 HT8 Hrow8
      refine Rg.ord_nil ?_
      go_wp2
      exact ⟨⟨k + 1, _, by omega, by go_num, by rw [Hnx.out]; exact HT11.out⟩, by simp [intOf]; omega⟩
    · obtain rfl : k = M := by omega
      have hfull := HT.out
      rw [HM.out, List.take_length] at hfull
      have Hf := hide hfull
      obtain ⟨d0, d1, d2, d3, d4, d5⟩ := hfull.cells
      obtain ⟨Av, nv, cv, rfl⟩ := owt_form hfull.own
      have hr2 : Row wr g2 tH [.int .i64 0, .int .i64 0, .int .i64 0, .int .i64 0, .slice none 0 0] := (hfull.far.block g2 Hr2.out.lt (fun e => by injection e with e; omega)).trans Hr2.out
      have z0 := hr2.cell 0
      have z1 := hr2.cell 1
      have z2 := hr2.cell 2
      have z3 := hr2.cell 3
      have z4 := hr2.cell 4
      have y0 := hr2.free 0
      have y1 := hr2.free 1
      have y2 := hr2.free 2
      have y3 := hr2.free 3
      have y4 := hr2.free 4
      simp only [List.getElem?_cons_zero, List.getElem?_cons_succ] at z0 z1 z2 z3 z4
      have Hrz := hide hr2
      clear hfull HT hr2 d5
      go_wp2
      have hz : Row ((((((wr.setCell ⟨g2, 0, none⟩ (.int .i64 hb)).setCell ⟨g2, 1, none⟩ (.int .i64 hbn)).setCell ⟨g2, 2, none⟩ (.int .i64 ha)).setCell ⟨g2, 3, none⟩ (.int .i64 han)).setCell ⟨g2, 4, none⟩ (.slice Av nv cv))) g2 tH [.int .i64 hb, .int .i64 hbn, .int .i64 ha, .int .i64 han, .slice Av nv cv] := ((((Hrz.out.put 0 _).put 1 _).put 2 _).put 3 _).put 4 _
      obtain ⟨wz, hwz⟩ : ∃ wz, wz = ((((((wr.setCell ⟨g2, 0, none⟩ (.int .i64 hb)).setCell ⟨g2, 1, none⟩ (.int .i64 hbn)).setCell ⟨g2, 2, none⟩ (.int .i64 ha)).setCell ⟨g2, 3, none⟩ (.int .i64 han)).setCell ⟨g2, 4, none⟩ (.slice Av nv cv))) := ⟨_, rfl⟩
      have hne : ∀ b, (Value.slice Av nv cv).ownBlock = some b → b ≠ g2 := row_ne Hrz.out tH_ne Hf.out.own
      have hown : OwT wz wp.heap.size tS (.slice Av nv cv) (lay (ps.map swp)) := by rw [hwz]; exact owt_off (owt_off (owt_off (owt_off (owt_off Hf.out.own hne _) hne _) hne _) hne _) hne _
      have hlow : Below w.heap.size w wz := by rw [hwz]; exact below_put (below_put (below_put (below_put (below_put Hf.out.low hg2w _) hg2w _) hg2w _) hg2w _) hg2w _
      rw [← hwz] at hz ⊢
      have q0 := hz.cell 0
      have q1 := hz.cell 1
      have q2 := hz.cell 2
      have q3 := hz.cell 3
      have q4 := hz.cell 4
      simp only [List.getElem?_cons_zero, List.getElem?_cons_succ] at q0 q1 q2 q3 q4
      clear hwz hne hz
      refine bodyPost_ret (v := .agg #[.int .i64 hb, .int .i64 hbn, .int .i64 ha, .int .i64 han, .slice Av nv cv]) (by simp [results, Try.results27, go_sem, q0, q1, q2, q3, q4]) rfl ⟨_, rfl, owt_base hown (by have := Hf.out.lt; omega), hlow⟩
end Go.Proofs.Ytfmmececocilhaa.Hu
