/-
  The edits of two sides, as they are gone through, in memory.
-/
import Derived.BigQuiet
import Derived.Test.YtghnieddokhagaaJE
import Derived.Test.YtghnieddokhagaaRS
import Derived.Test.YtghnieddokhagaaQEK
namespace Go.Proofs.Ytghnieddokhagaa.Al
open Go Go.RowKit Kt Lw Li Df

/-- an edit as it lies in a row -/
structure Ev where
  e : Ed
  A : Option Addr
  c : Nat
def evV (v : Ev) : Value := .agg #[.int .i64 v.e.pos, .int .i64 v.e.del, .slice v.A v.e.ins.length v.c]
/-- a block without cells -/
def Dum (w : World) (k : Nat) : Prop := ∀ o, w.cell? ⟨k, o, none⟩ = none
/-- what lay there, but what has no cells, is as it was -/
structure Bel (w0 W : World) : Prop where
  size : w0.heap.size ≤ W.heap.size
  block : ∀ k, k < w0.heap.size → Dum w0 k ∨ W.heap[k]? = w0.heap[k]?
theorem Bel.of {w0 W : World} (h : Below w0.heap.size w0 W) : Bel w0 W := ⟨h.size, fun k hk => .inr (h.block k hk)⟩
theorem Bel.trans {w0 A B : World} (h : Bel w0 A) (k : Below w0.heap.size A B) : Bel w0 B :=
  ⟨Nat.le_trans h.size k.size, fun i hi => (h.block i hi).imp id fun e => (k.block i hi).trans e⟩
theorem Bel.drewN {w0 A : World} (h : Bel w0 A) (k : Nat) : Bel w0 (A.drewN k) := ⟨h.size, h.block⟩
theorem Bel.drew {w0 A : World} (h : Bel w0 A) : Bel w0 A.drew := ⟨h.size, h.block⟩
theorem Bel.grown {w0 A B : World} {row : Option Nat} (h : Bel w0 A) (hg : A.grownBy B row) (hr : ∀ r, row = some r → w0.heap.size ≤ r) : Bel w0 B :=
  h.trans ((Below.refl _ _).grown hg h.size hr)
theorem Bel.put {w0 A : World} (h : Bel w0 A) {g i : Nat} (hg : w0.heap.size ≤ g) (u : Value) : Bel w0 (A.setCell ⟨g, i, none⟩ u) := h.trans (below_put (Below.refl _ _) hg u)
/-- where the edits of two sides are; w0: the world ahead of the block b -/
structure Ct (w0 W : World) (b : Nat) (xs ys : List Ed) : Prop where
  low : Bel w0 W
  out : w0.heap.size ≤ b
  st : ∃ A c A' c', Row W b tL [.slice A xs.length c, .slice A' ys.length c'] ∧ Es w0 A c xs ∧ Es w0 A' c' ys
theorem es_head {w0 W : World} {A : Option Addr} {c : Nat} {e : Ed} {r : List Ed} (h : Es w0 A c (e :: r)) (hb : Bel w0 W) :
    ∃ g o Ai ci, A = some ⟨g, o, none⟩ ∧ W.cell? ⟨g, o, none⟩ = some (.int .i64 e.pos) ∧ W.cell? ⟨g, o + 1, none⟩ = some (.int .i64 e.del) ∧ W.cell? ⟨g, o + 2, none⟩ = some (.slice Ai e.ins.length ci) ∧ r.length + 1 ≤ c := by
  obtain ⟨h1, h2⟩ := h
  obtain ⟨g, o, rfl, hlt, he⟩ := h2 (by simp)
  obtain ⟨Ai, ci, hr, _⟩ := he 0 e rfl
  have key : ∀ i v, (edC e (.slice Ai e.ins.length ci))[i]? = some v → W.cell? ⟨g, o + i, none⟩ = some v := fun i v hi => by
    have := hr i v hi
    rw [Nat.mul_zero, Nat.add_zero] at this
    rcases hb.block g hlt with hd | hd
    · rw [hd (o + i)] at this; cases this
    · exact (World.cell?_of_block (a := ⟨g, o + i, none⟩) hd).trans this
  exact ⟨g, o, Ai, ci, rfl, key 0 _ rfl, key 1 _ rfl, key 2 _ rfl, h1⟩
set_option maxRecDepth 100000 in
set_option maxHeartbeats 1000000 in
theorem some_any (w0 : World) (b : Nat) (xs ys : List Ed) (w : World) (h : Ct w0 w b xs ys) :
    Calls Try.prog 57 #[.pointer (some ⟨b, 0, none⟩)] w fun y w' => y = .returned (.bool (decide (xs ≠ [] ∨ ys ≠ []))) ∧ w' = w := by
  obtain ⟨A, c, A', c', hr, _, _⟩ := h.st
  have k0 := hr.cell 0
  have k1 := hr.cell 1
  simp only [List.getElem?_cons_zero, List.getElem?_cons_succ] at k0 k1
  have hD := hide (show decide (xs ≠ [] ∨ ys ≠ []) = (decide (0 < xs.length) || decide (0 < ys.length)) by
    rw [Bool.eq_iff_iff]; simp [List.length_pos_iff])
  obtain ⟨n, hn⟩ : ∃ n, n = xs.length := ⟨_, rfl⟩
  obtain ⟨m, hm⟩ : ∃ m, m = ys.length := ⟨_, rfl⟩
  rw [← hn] at k0 hD
  rw [← hm] at k1 hD
  rw [hD.out]
  clear h hr hn hm hD
  by_cases h0 : 0 < n
  · have d0 : decide (0 < n) = true := decide_eq_true h0
    have d1 : decide ((0 : Int) < (n : Int)) = true := decide_eq_true (by omega)
    go_enter Try.func57, Try.ntmps57
    go_wp2
    go_ret
    exact ⟨by rw [d0]; rfl, rfl⟩
  · have d0 : decide (0 < n) = false := decide_eq_false h0
    have d1 : decide ((0 : Int) < (n : Int)) = false := decide_eq_false (by omega)
    go_enter Try.func57, Try.ntmps57
    go_wp2
    go_ret
    exact ⟨by rw [d0]; simp, rfl⟩
set_option maxRecDepth 100000 in
set_option maxHeartbeats 1000000 in
theorem side_any (w0 : World) (b : Nat) (xs ys : List Ed) (w : World) (h : Ct w0 w b xs ys) :
    Calls Try.prog 92 #[.pointer (some ⟨b, 0, none⟩)] w fun y w' => y = .returned (sideV (sd xs ys)) ∧ ∃ k, w' = w.drewN k := by
  obtain ⟨A, c, A', c', hr, he, he'⟩ := h.st
  have k0 := hr.cell 0
  have k1 := hr.cell 1
  simp only [List.getElem?_cons_zero, List.getElem?_cons_succ] at k0 k1
  have hl := h.low
  clear h hr
  cases xs with
  | nil =>
    clear he he' hl
    simp only [List.length_nil] at k0
    go_enter Try.func92, Try.ntmps92
    go_wp2
    go_ret
    exact ⟨rfl, 0, rfl⟩
  | cons e r =>
    obtain ⟨g, o, Ai, ci, rfl, e0, _, _, hc1⟩ := es_head he hl
    obtain ⟨n, hn⟩ : ∃ n, n = (e :: r).length := ⟨_, rfl⟩
    have hn1 : 0 < n := by rw [hn]; simp
    rw [← hn] at k0
    have z0 : ((n : Int) == 0) = false := by rw [beq_eq_false_iff_ne]; omega
    have z1 : (0 : Int) < (n : Int) := by omega
    clear hn he
    cases ys with
    | nil =>
      clear he' hl
      simp only [List.length_nil] at k1
      go_enter Try.func92, Try.ntmps92
      go_wp2
      go_quiet (fail)
      go_wp2
      go_ret
      exact ⟨rfl, _, rfl⟩
    | cons f t =>
      obtain ⟨g', o', Ai', ci', rfl, f0, _, _, hc2⟩ := es_head he' hl
      obtain ⟨m, hm⟩ : ∃ m, m = (f :: t).length := ⟨_, rfl⟩
      have hm1 : 0 < m := by rw [hm]; simp
      rw [← hm] at k1
      have y0 : ((m : Int) == 0) = false := by rw [beq_eq_false_iff_ne]; omega
      have y1 : (0 : Int) < (m : Int) := by omega
      clear hm he' hl
      obtain ⟨p, hp⟩ : ∃ p, p = e.pos := ⟨_, rfl⟩
      obtain ⟨q, hq⟩ : ∃ q, q = f.pos := ⟨_, rfl⟩
      rw [← hp] at e0
      rw [← hq] at f0
      rw [show sd (e :: r) (f :: t) = decide (q < p) by rw [hp, hq]; rfl]
      clear hp hq hn1 hm1
      by_cases hpq : p ≤ q
      · have dl : decide (p ≤ q) = true := decide_eq_true hpq
        have dh : decide (q < p) = false := decide_eq_false (by omega)
        rw [dh]
        go_enter Try.func92, Try.ntmps92
        go_wp2
        go_quiet (fail)
        go_wp2
        go_ret
        exact ⟨rfl, _, rfl⟩
      · have dl : decide (p ≤ q) = false := decide_eq_false hpq
        have dh : decide (q < p) = true := decide_eq_true (by omega)
        rw [dh]
        go_enter Try.func92, Try.ntmps92
        go_wp2
        go_quiet (fail)
        go_wp2
        go_ret
        exact ⟨rfl, _, rfl⟩
end Go.Proofs.Ytghnieddokhagaa.Al
namespace Go.Proofs.Ytghnieddokhagaa.Al
open Go Go.RowKit Go.Shelf Kt Lw Li Df Rs
attribute [local go_sem] Oper.semAt_some

def pr (x : Bool × Ev) : Bool × Ed := (x.1, x.2.e)
def encS (x : Bool × Ev) : Array Value := #[sideV x.1, evV x.2]
theorem each_any (b : Nat) (w : World) :
    Calls Try.prog 77 #[.pointer (some ⟨b, 0, none⟩)] w fun e w' => e = .returned (.func (.func 91) #[] #[.pointer (some ⟨w.heap.size, 0, none⟩)]) ∧ w' = w.alloc (.cells #[.pointer (some ⟨b, 0, none⟩)] 117) := by
  go_enter Try.func77, Try.ntmps77
  go_wp2
  go_ret
  exact ⟨rfl, rfl⟩
theorem run_cutS (w : World) (b o n c i : Nat) (hi : i ≤ n) (_hc : n ≤ c) :
    (Instr.slice 85 (.slice (some ⟨b, o, none⟩) n c) (some (.int .i64 (i : Int))) none none).run Try.prog w = .ok (.slice (if c = i then some ⟨b, o, none⟩ else some ⟨b, o + i * 3, none⟩) (n - i) (c - i)) w := by
  have hu := run_underlying Try.underlying85
  by_cases h : c = i
  · rw [if_pos h]
    go_simp
  · rw [if_neg h]
    go_simp
theorem es_tail {w : World} {b o c : Nat} {e : Ed} {L : List Ed} (h : Es w (some ⟨b, o, none⟩) c (e :: L)) : Es w (if c = 1 then some ⟨b, o, none⟩ else some ⟨b, o + 1 * 3, none⟩) (c - 1) L := by
  refine ⟨by have := h.1; simp at this; omega, fun hn => ?_⟩
  obtain ⟨b', o', hA, hlt, he⟩ := h.2 (by simp)
  injection hA with hA
  injection hA with h1 h2 h3
  subst h1 h2
  have := h.1
  simp at this
  rw [if_neg (by omega)]
  refine ⟨b, o + 1 * 3, rfl, hlt, fun j f hj => ?_⟩
  obtain ⟨A', c', hr, hv⟩ := he (j + 1) f (by simpa using hj)
  exact ⟨A', c', by rw [show o + 1 * 3 + 3 * j = o + 3 * (j + 1) from by omega]; exact hr, hv⟩
def lenAt (W : World) (b i : Nat) : Nat := match W.cell? ⟨b, i, none⟩ with
  | some (.slice _ n _) => n
  | _ => 0
theorem Ct.len {w0 W : World} {b : Nat} {xs ys : List Ed} (h : Ct w0 W b xs ys) : lenAt W b 0 = xs.length ∧ lenAt W b 1 = ys.length := by
  obtain ⟨A, c, A', c', hr, _, _⟩ := h.st
  have k0 := hr.cell 0
  have k1 := hr.cell 1
  simp only [List.getElem?_cons_zero, List.getElem?_cons_succ] at k0 k1
  unfold lenAt
  rw [k0, k1]
  exact ⟨rfl, rfl⟩
/-- what a round must keep for the iterator -/
def KpE (w0 : World) (b Bs : Nat) (A B : World) : Prop := Below w0.heap.size A B ∧ B.heap[b]? = A.heap[b]? ∧ B.heap[Bs]? = A.heap[Bs]?
theorem Ct.keep {w0 A B : World} {b Bs : Nat} {xs ys : List Ed} (h : Ct w0 A b xs ys) (hk : KpE w0 b Bs A B) : Ct w0 B b xs ys := by
  obtain ⟨A1, c, A', c', hr, h1, h2⟩ := h.st
  exact ⟨h.low.trans hk.1, h.out, A1, c, A', c', hk.2.1.trans hr, h1, h2⟩
theorem Ct.drewN {w0 A : World} {b : Nat} {xs ys : List Ed} (h : Ct w0 A b xs ys) (k : Nat) : Ct w0 (A.drewN k) b xs ys := by
  obtain ⟨A1, c, A', c', hr, h1, h2⟩ := h.st
  exact ⟨h.low.drewN k, h.out, A1, c, A', c', hr.drewN k, h1, h2⟩
set_option maxRecDepth 100000 in
set_option maxHeartbeats 2000000 in
theorem each_st (n : Nat) (hn : 1 ≤ n) (w0 w : World) (b Bs : Nat) (xs ys : List Ed) (hct : Ct w0 w b xs ys) (hbw : b < w.heap.size) (hBs : w.cell? ⟨Bs, 0, none⟩ = some (.pointer (some ⟨b, 0, none⟩))) (hBw : Bs < w.heap.size) (hne : b ≠ Bs) :
    SeqSt Fence.wide n Try.prog 91 #[.pointer (some ⟨Bs, 0, none⟩)] encS b (KpE w0 b Bs)
      (fun zs W => zs.map pr = mrg xs ys ∧ Ct w0 W b [] [])
      (fun zs W => ∃ X Y vs v, zs = vs ++ [v] ∧ (∃ r, mrg X Y = pr v :: r) ∧ vs.map pr ++ mrg X Y = mrg xs ys ∧ Ct w0 W b X Y) (fun zs x => (zs ++ [x]).map pr <+: mrg xs ys) w := by
  intro l J Jx W hW fJ fJx hY h0
  have hct' : Ct w0 W b xs ys := by
    obtain ⟨A1, c, A', c', hr, h1, h2⟩ := hct.st
    exact ⟨hct.low.trans (hW.mono hct.low.size), hct.out, A1, c, A', c', (hW.block b hbw).trans hr, h1, h2⟩
  have hbs' := (hW.cell (p := ⟨Bs, 0, none⟩) hBw).trans hBs
  have Hne := hide hne
  clear hct hBs hW hne
  refine callsIn_of_wp Try.func91 rfl trivial ?_ rfl
  simp only [Try.ntmps91, List.size_toArray, List.length_cons, List.length_nil, Nat.reduceAdd, Nat.reduceSub, Array.replicate_succ, Array.replicate_zero, List.push_toArray, List.append_toArray, List.nil_append, List.cons_append]
  gi_wp2
  gi_loopw [3] (fun v wr => ∃ (zs : List (Bool × Ev)) (X Y : List Ed), Hid (zs.map pr ++ mrg X Y = mrg xs ys) ∧ Hid (Ct w0 wr b X Y) ∧ wr.cell? ⟨Bs, 0, none⟩ = some (.pointer (some ⟨b, 0, none⟩)) ∧ Hid (J zs wr)) (fun _ wr => lenAt wr b 0 + lenAt wr b 1)
  case atStart => exact ⟨[], xs, ys, rfl, hct', hbs', h0⟩
  case round =>
    obtain ⟨zs, X, Y, Hm, Hc, hbs, HJ⟩ := hrel
    have Hs := hide (some_any w0 b X Y wr Hc.out)
    by_cases hxy : X = [] ∧ Y = []
    · obtain ⟨rfl, rfl⟩ := hxy
      rw [decide_eq_false (show ¬ (([] : List Ed) ≠ [] ∨ ([] : List Ed) ≠ []) by simp)] at Hs
      gi_wp2_with (refine ⟨trivial, ?_⟩; gi_at_call 57; refine (callsIn_wide.2 Hs.out).mono ?_; rintro e w' ⟨rfl, rfl⟩)
      go_end0
      exact ⟨⟨_, rfl⟩, .inl ⟨zs, ⟨by have := Hm.out; rwa [mrg_nil, List.append_nil] at this, Hc.out⟩, HJ.out⟩⟩
    · have hxy' : X ≠ [] ∨ Y ≠ [] := by
        by_cases hx : X = []
        · exact .inr fun hy => hxy ⟨hx, hy⟩
        · exact .inl hx
      rw [decide_eq_true hxy'] at Hs
      have hmc := mrg_cons X Y hxy'
      clear hxy hxy'
      rcases hmc with hmc | hmc
      · obtain ⟨hsd, e, r, rfl, hm⟩ := hmc
        have Hsd := hide (side_any w0 b (e :: r) Y wr Hc.out)
        rw [hsd, show sideV false = .int .i64 0 from rfl] at Hsd
        obtain ⟨A, c, A', c', hr, he, he'⟩ := Hc.out.st
        have hlw := Hc.out.low
        have hbo := Hc.out.out
        obtain ⟨g, o, Ai, ci, rfl, e0, e1, e2, hc1⟩ := es_head he hlw
        have k0 := hr.cell 0
        have k1 := hr.cell 1
        simp only [List.getElem?_cons_zero, List.getElem?_cons_succ] at k0 k1
        have Hr := hide hr
        have Hes := hide he
        have Hes2 := hide he'
        have Hm2 := hide (show (zs ++ [(false, Ev.mk e Ai ci)]).map pr ++ mrg r Y = mrg xs ys by rw [← Hm.out, hm, List.map_append, List.append_assoc]; rfl)
        have hN : (zs ++ [(false, Ev.mk e Ai ci)]).map pr <+: mrg xs ys := ⟨_, Hm2.out⟩
        have Hmm := hide hm
        gi_wp2_with (refine ⟨trivial, ?_⟩; gi_at_call 57; refine (callsIn_wide.2 Hs.out).mono ?_; rintro e' w' ⟨rfl, rfl⟩)
        gi_wp2_with (refine ⟨trivial, ?_⟩; gi_at_call 92; refine (callsIn_wide.2 Hsd.out).mono ?_; rintro e' w'' ⟨rfl, k, rfl⟩)
        have hJ2 : J zs (w'.drewN k) := fJ zs w' _ HJ.out ⟨rfl, rfl, rfl, Nat.le_refl _, fun _ _ _ => rfl⟩
        obtain ⟨fn, tmps, assign, body, hy, hR⟩ := hY zs (false, Ev.mk e Ai ci) _ hJ2 hN
        have HJ2 := hide hJ2
        have HR := hide hR
        clear hR hJ2
        have hy2 : (Instr.yield l #[.int .i64 0, .agg #[.int .i64 e.pos, .int .i64 e.del, .slice Ai e.ins.length ci]]).run Try.prog (w'.drewN k) = .ok (.round l fn tmps assign body) (w'.drewN k) := hy
        clear hy
        gi_wp2
        rw [hy2]
        gi_wp2
        refine HR.out.mono ?_
        rintro e3 W3 (⟨rfl, hJ3, hk3⟩ | ⟨rfl, hJ3, hk3⟩)
        · skip
          gi_wp2
          have hbs3 : W3.cell? ⟨Bs, 0, none⟩ = some (.pointer (some ⟨b, 0, none⟩)) := (World.cell?_of_block (a := ⟨Bs, 0, none⟩) hk3.2.2).trans hbs
          have hr3 : Row W3 b tL [.slice (some ⟨g, o, none⟩) (r.length + 1) c, .slice A' Y.length c'] := hk3.2.1.trans Hr.out
          have hlw3 : Bel w0 W3 := (Hc.out.low.drewN k).trans hk3.1
          have hrd := hr3.drew
          have kz := hrd.cell 0
          have fz := hrd.free 0
          simp only [List.getElem?_cons_zero] at kz
          have hbs3d : W3.drew.cell? ⟨Bs, 0, none⟩ = some (.pointer (some ⟨b, 0, none⟩)) := hbs3
          obtain ⟨A2, hA2⟩ : ∃ A2, A2 = (if c = 1 then some ⟨g, o, none⟩ else some ⟨g, o + 1 * 3, none⟩ : Option Addr) := ⟨_, rfl⟩
          have hcut : ∀ u, (Instr.slice 85 (.slice (some ⟨g, o, none⟩) (r.length + 1) c) (some (.int .i64 1)) none none).run Try.prog u = .ok (.slice A2 r.length (c - 1)) u := fun u => by
            have h := run_cutS u g o (r.length + 1) c 1 (by omega) hc1
            rw [← hA2] at h
            exact h
          have hA2h := hide hA2
          clear hA2 k0 k1 e0 e1 e2
          refine wpIn_wide.2 ?_
          refine Rc.wp_region_ord (fun u => u.cell? ⟨Bs, 0, none⟩ = some (.pointer (some ⟨b, 0, none⟩)) ∧ u.cell? ⟨b, 0, none⟩ = some (.slice (some ⟨g, o, none⟩) (r.length + 1) c)) [(0, true), (1, true), (2, true), (3, true), (4, true), (5, true), (6, true), (7, true), (8, true), (9, true), (10, false)] (by kernel_rfl) (by kernel_rfl) ?_
          simp only [Rg.pick, List.map_cons, List.map_nil, List.getD_cons_zero, List.getD_cons_succ]
          iterate 7 (refine Rc.ord_quiet (v := ?_) rfl (fun w' hS => ?_) ⟨hbs3d, kz⟩ ?_; rotate_left; (obtain ⟨s0, s1⟩ := hS; go_simp; with_reducible rfl); simp only [Act.put, List.setIfInBounds_toArray, List.set_cons_succ, List.set_cons_zero])
          refine Rc.ord_quiet (v := .slice A2 r.length (c - 1)) rfl (fun w' hS => ?_) ⟨hbs3d, kz⟩ ?_
          · go_simp
          simp only [Act.put, List.setIfInBounds_toArray, List.set_cons_succ, List.set_cons_zero]
          iterate 2 (refine Rc.ord_quiet (v := ?_) rfl (fun w' hS => ?_) ⟨hbs3d, kz⟩ ?_; rotate_left; (obtain ⟨s0, s1⟩ := hS; go_simp; with_reducible rfl); simp only [Act.put, List.setIfInBounds_toArray, List.set_cons_succ, List.set_cons_zero])
          refine Rc.ord_loud rfl (fun K hK => ?_)
          go_simp
          refine hK _ _ (fun hf => absurd (show Rc.sink _ 10 = true from by kernel_rfl) (by rw [hf]; decide)) ?_
          clear hK K
          refine Rc.ord_nil ?_
          have hg4 : W3.grownBy (W3.setCell ⟨b, 0, none⟩ (.slice A2 r.length (c - 1))).drew (some b) := grown_drew (grown_put (i := 0) (World.grownBy.refl W3 (some b)) _)
          have hct4 : Ct w0 (W3.setCell ⟨b, 0, none⟩ (.slice A2 r.length (c - 1))).drew b r Y := by
            refine ⟨(hlw3.put (g := b) (i := 0) hbo _).drew, hbo, A2, c - 1, A', c', ?_, by rw [hA2h.out]; exact es_tail Hes.out, Hes2.out⟩
            have h5 := (hr3.put 0 (.slice A2 r.length (c - 1))).drew
            exact h5
          have hbs4 : (W3.setCell ⟨b, 0, none⟩ (.slice A2 r.length (c - 1))).drew.cell? ⟨Bs, 0, none⟩ = some (.pointer (some ⟨b, 0, none⟩)) := (World.cell?_of_block (a := ⟨Bs, 0, none⟩) (Below.heap_setCell W3 ⟨b, 0, none⟩ _ Bs (Ne.symm Hne.out))).trans hbs3
          have hl1 := hct4.len
          have hl2 := Hc.out.len
          go_wp2
          go_roundw
          case rel => exact ⟨_, r, Y, Hm2.out, hct4, hbs4, fJ _ _ _ hJ3 hg4⟩
          case measure => rw [hl1.1, hl1.2, hl2.1, hl2.2, List.length_cons]; omega
        · skip
          gi_wp2
          refine bodyPost_ret (results_none rfl _ _ _) rfl ?_
          exact ⟨⟨_, rfl⟩, .inr ⟨_, ⟨(e :: r), Y, zs, (false, Ev.mk e Ai ci), rfl, ⟨_, Hmm.out⟩, Hm.out, (Hc.out.drewN k).keep hk3⟩, hJ3⟩⟩
      · obtain ⟨hsd, e, r, rfl, hm⟩ := hmc
        have Hsd := hide (side_any w0 b X (e :: r) wr Hc.out)
        rw [hsd, show sideV true = .int .i64 1 from rfl] at Hsd
        obtain ⟨A, c, A', c', hr, he, he'⟩ := Hc.out.st
        have hlw := Hc.out.low
        have hbo := Hc.out.out
        obtain ⟨g, o, Ai, ci, rfl, e0, e1, e2, hc1⟩ := es_head he' hlw
        have k0 := hr.cell 0
        have k1 := hr.cell 1
        simp only [List.getElem?_cons_zero, List.getElem?_cons_succ] at k0 k1
        have Hr := hide hr
        have Hes := hide he'
        have Hes2 := hide he
        have Hm2 := hide (show (zs ++ [(true, Ev.mk e Ai ci)]).map pr ++ mrg X r = mrg xs ys by rw [← Hm.out, hm, List.map_append, List.append_assoc]; rfl)
        have hN : (zs ++ [(true, Ev.mk e Ai ci)]).map pr <+: mrg xs ys := ⟨_, Hm2.out⟩
        have Hmm := hide hm
        gi_wp2_with (refine ⟨trivial, ?_⟩; gi_at_call 57; refine (callsIn_wide.2 Hs.out).mono ?_; rintro e' w' ⟨rfl, rfl⟩)
        gi_wp2_with (refine ⟨trivial, ?_⟩; gi_at_call 92; refine (callsIn_wide.2 Hsd.out).mono ?_; rintro e' w'' ⟨rfl, k, rfl⟩)
        have hJ2 : J zs (w'.drewN k) := fJ zs w' _ HJ.out ⟨rfl, rfl, rfl, Nat.le_refl _, fun _ _ _ => rfl⟩
        obtain ⟨fn, tmps, assign, body, hy, hR⟩ := hY zs (true, Ev.mk e Ai ci) _ hJ2 hN
        have HJ2 := hide hJ2
        have HR := hide hR
        clear hR hJ2
        have hy2 : (Instr.yield l #[.int .i64 1, .agg #[.int .i64 e.pos, .int .i64 e.del, .slice Ai e.ins.length ci]]).run Try.prog (w'.drewN k) = .ok (.round l fn tmps assign body) (w'.drewN k) := hy
        clear hy
        gi_wp2
        rw [hy2]
        gi_wp2
        refine HR.out.mono ?_
        rintro e3 W3 (⟨rfl, hJ3, hk3⟩ | ⟨rfl, hJ3, hk3⟩)
        · skip
          gi_wp2
          have hbs3 : W3.cell? ⟨Bs, 0, none⟩ = some (.pointer (some ⟨b, 0, none⟩)) := (World.cell?_of_block (a := ⟨Bs, 0, none⟩) hk3.2.2).trans hbs
          have hr3 : Row W3 b tL [.slice A X.length c, .slice (some ⟨g, o, none⟩) (r.length + 1) c'] := hk3.2.1.trans Hr.out
          have hlw3 : Bel w0 W3 := (Hc.out.low.drewN k).trans hk3.1
          have hrd := hr3.drew
          have kz := hrd.cell 1
          have fz := hrd.free 1
          simp only [List.getElem?_cons_zero, List.getElem?_cons_succ] at kz
          have hbs3d : W3.drew.cell? ⟨Bs, 0, none⟩ = some (.pointer (some ⟨b, 0, none⟩)) := hbs3
          obtain ⟨A2, hA2⟩ : ∃ A2, A2 = (if c' = 1 then some ⟨g, o, none⟩ else some ⟨g, o + 1 * 3, none⟩ : Option Addr) := ⟨_, rfl⟩
          have hcut : ∀ u, (Instr.slice 85 (.slice (some ⟨g, o, none⟩) (r.length + 1) c') (some (.int .i64 1)) none none).run Try.prog u = .ok (.slice A2 r.length (c' - 1)) u := fun u => by
            have h := run_cutS u g o (r.length + 1) c' 1 (by omega) hc1
            rw [← hA2] at h
            exact h
          have hA2h := hide hA2
          clear hA2 k0 k1 e0 e1 e2
          refine wpIn_wide.2 ?_
          refine Rc.wp_region_ord (fun u => u.cell? ⟨Bs, 0, none⟩ = some (.pointer (some ⟨b, 0, none⟩)) ∧ u.cell? ⟨b, 1, none⟩ = some (.slice (some ⟨g, o, none⟩) (r.length + 1) c')) [(0, true), (1, true), (2, true), (3, true), (4, true), (5, true), (6, true), (7, true), (8, true), (9, true), (10, false)] (by kernel_rfl) (by kernel_rfl) ?_
          simp only [Rg.pick, List.map_cons, List.map_nil, List.getD_cons_zero, List.getD_cons_succ]
          iterate 7 (refine Rc.ord_quiet (v := ?_) rfl (fun w' hS => ?_) ⟨hbs3d, kz⟩ ?_; rotate_left; (obtain ⟨s0, s1⟩ := hS; go_simp; with_reducible rfl); simp only [Act.put, List.setIfInBounds_toArray, List.set_cons_succ, List.set_cons_zero])
          refine Rc.ord_quiet (v := .slice A2 r.length (c' - 1)) rfl (fun w' hS => ?_) ⟨hbs3d, kz⟩ ?_
          · go_simp
          simp only [Act.put, List.setIfInBounds_toArray, List.set_cons_succ, List.set_cons_zero]
          iterate 2 (refine Rc.ord_quiet (v := ?_) rfl (fun w' hS => ?_) ⟨hbs3d, kz⟩ ?_; rotate_left; (obtain ⟨s0, s1⟩ := hS; go_simp; with_reducible rfl); simp only [Act.put, List.setIfInBounds_toArray, List.set_cons_succ, List.set_cons_zero])
          refine Rc.ord_loud rfl (fun K hK => ?_)
          go_simp
          refine hK _ _ (fun hf => absurd (show Rc.sink _ 10 = true from by kernel_rfl) (by rw [hf]; decide)) ?_
          clear hK K
          refine Rc.ord_nil ?_
          have hg4 : W3.grownBy (W3.setCell ⟨b, 1, none⟩ (.slice A2 r.length (c' - 1))).drew (some b) := grown_drew (grown_put (i := 1) (World.grownBy.refl W3 (some b)) _)
          have hct4 : Ct w0 (W3.setCell ⟨b, 1, none⟩ (.slice A2 r.length (c' - 1))).drew b X r := by
            refine ⟨(hlw3.put (g := b) (i := 1) hbo _).drew, hbo, A, c, A2, c' - 1, ?_, Hes2.out, by rw [hA2h.out]; exact es_tail Hes.out⟩
            have h5 := (hr3.put 1 (.slice A2 r.length (c' - 1))).drew
            exact h5
          have hbs4 : (W3.setCell ⟨b, 1, none⟩ (.slice A2 r.length (c' - 1))).drew.cell? ⟨Bs, 0, none⟩ = some (.pointer (some ⟨b, 0, none⟩)) := (World.cell?_of_block (a := ⟨Bs, 0, none⟩) (Below.heap_setCell W3 ⟨b, 1, none⟩ _ Bs (Ne.symm Hne.out))).trans hbs3
          have hl1 := hct4.len
          have hl2 := Hc.out.len
          go_wp2
          go_roundw
          case rel => exact ⟨_, X, r, Hm2.out, hct4, hbs4, fJ _ _ _ hJ3 hg4⟩
          case measure => rw [hl1.1, hl1.2, hl2.1, hl2.2, List.length_cons]; omega
        · skip
          gi_wp2
          refine bodyPost_ret (results_none rfl _ _ _) rfl ?_
          exact ⟨⟨_, rfl⟩, .inr ⟨_, ⟨X, (e :: r), zs, (true, Ev.mk e Ai ci), rfl, ⟨_, Hmm.out⟩, Hm.out, (Hc.out.drewN k).keep hk3⟩, hJ3⟩⟩
end Go.Proofs.Ytghnieddokhagaa.Al
