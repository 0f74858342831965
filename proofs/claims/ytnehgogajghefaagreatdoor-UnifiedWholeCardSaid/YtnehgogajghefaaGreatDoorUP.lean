/-
  unified: what the reader lacks; a line without an end; heads of the reader's line.
-/
import Derived.Test.YtnehgogajghefaaGreatDoorUL
namespace Go.Proofs.YtnehgogajghefaaGreatDoor.Un
open Go Go.RowKit Kt Lw Li Df Hu

theorem store_row {w : World} {g : Nat} {ty : TypeId} {cs : List Value} (h : Row w g ty cs) {i : Nat} (hi : i < cs.length) (u : Value) (m : Mode) (hu : u.oneCell' = true) : (store ⟨g, i, none⟩ u m).run Tryz.prog w = .ok () (w.setCell ⟨g, i, none⟩ u) := by
  rw [run_store _ _ _ _ _ hu, h.cell i, List.getElem?_eq_getElem hi, h.free i]
  rfl
theorem grown_two {a b c : World} {r : Option Nat} (h : a.grownBy b r) (k : b.grownBy c r) : a.grownBy c r :=
  ⟨k.os.trans h.os, k.tape.trans h.tape, k.output.trans h.output, Nat.le_trans h.size k.size, fun i hi hne => (k.block i (Nat.lt_of_lt_of_le hi h.size) hne).trans (h.block i hi hne)⟩
/-- a cell of the reader's own block is set -/
theorem put_grown (w : World) (g i : Nat) (u : Value) : w.grownBy (w.setCell ⟨g, i, none⟩ u) (some g) :=
  ⟨rfl, rfl, rfl, Nat.le_of_eq (World.size_setCell w _ _).symm, fun k _ hne => Below.heap_setCell w ⟨g, i, none⟩ u k (fun e => hne (by rw [e]))⟩
set_option maxRecDepth 100000 in
set_option maxHeartbeats 1000000 in
theorem lack_any (g : Nat) (f v : Value) (o0 n0 o n : Int) (w : World) (h : Row w g tR [f, v, .int .i64 o0, .int .i64 n0]) :
    Calls Tryz.prog 51 #[.pointer (some ⟨g, 0, none⟩), .int .i64 o, .int .i64 n] w fun y w' => y = .returned (.tuple #[]) ∧ Row w' g tR [fnV g (decide (o = 0 ∧ n = 0)), v, .int .i64 o, .int .i64 n] ∧ w.grownBy w' (some g) := by
  have c2 := h.cell 2
  have c3 := h.cell 3
  have f2 := h.free 2
  have f3 := h.free 3
  simp only [List.getElem?_cons_zero, List.getElem?_cons_succ] at c2 c3
  have hr1 := (h.put 2 (.int .i64 o)).put 3 (.int .i64 n)
  simp only [List.set_cons_zero, List.set_cons_succ] at hr1
  have hs1 := store_row hr1 (i := 0) (by simp) (fnV g false) .plain rfl
  have Hg1 := hide (grown_two (put_grown w g 2 (.int .i64 o)) (put_grown _ g 3 (.int .i64 n)))
  obtain ⟨w1, hw1⟩ : ∃ w1, w1 = (w.setCell ⟨g, 2, none⟩ (.int .i64 o)).setCell ⟨g, 3, none⟩ (.int .i64 n) := ⟨_, rfl⟩
  have Hr1 := hide hr1
  rw [← hw1] at Hr1 hs1 Hg1
  clear h hr1
  go_enter Tryz.func51, Tryz.ntmps51
  go_wp2_with fail
  rw [← hw1]
  have hs1' : (store ⟨g, 0, none⟩ (.func (.func 62) #[.pointer (some ⟨g, 0, none⟩)] #[])).run Tryz.prog w1 = .ok () (w1.setCell ⟨g, 0, none⟩ (.func (.func 62) #[.pointer (some ⟨g, 0, none⟩)] #[])) := hs1
  rw [hs1']
  have hr2 := Hr1.out.put 0 (fnV g false)
  simp only [List.set_cons_zero] at hr2
  have Hw := hide (whole_any g _ v o n _ hr2)
  have Hr2 := hide hr2
  have Hg2 := hide (grown_two Hg1.out (put_grown w1 g 0 (fnV g false)))
  clear hw1 c2 c3 f2 f3 hs1 hr2
  go_wp2_with fail
  refine Hw.out.mono ?_
  rintro y w3 ⟨rfl, k, rfl⟩
  have Hr3 := hide (Hr2.out.drewN k)
  have Hg3 := hide (show w.grownBy ((w1.setCell ⟨g, 0, none⟩ (fnV g false)).drewN k) (some g) from ⟨Hg2.out.os, Hg2.out.tape, Hg2.out.output, Hg2.out.size, Hg2.out.block⟩)
  clear Hr2 Hg2 Hw
  generalize World.drewN _ k = w3 at *
  by_cases hb : o = 0 ∧ n = 0
  · have hd : decide (o = 0 ∧ n = 0) = true := decide_eq_true hb
    have Hd := hide hd
    rw [hd]
    clear hd hb
    go_wp2_with fail
    have hs2 : (store ⟨g, 0, none⟩ (.func (.func 41) #[.pointer (some ⟨g, 0, none⟩)] #[])).run Tryz.prog w3 = .ok () (w3.setCell ⟨g, 0, none⟩ (.func (.func 41) #[.pointer (some ⟨g, 0, none⟩)] #[])) := store_row Hr3.out (i := 0) (by simp) _ .plain rfl
    rw [hs2]
    go_wp2
    refine bodyPost_end (results_none rfl _ _ _) rfl ?_
    refine ⟨rfl, ?_, grown_two Hg3.out (put_grown w3 g 0 _)⟩
    rw [Hd.out]
    exact Hr3.out.put 0 (fnV g true)
  · have hd : decide (o = 0 ∧ n = 0) = false := decide_eq_false hb
    have Hd := hide hd
    rw [hd]
    clear hd hb
    go_wp2
    refine bodyPost_end (results_none rfl _ _ _) rfl ?_
    exact ⟨rfl, by rw [Hd.out]; exact Hr3.out, Hg3.out⟩
set_option maxRecDepth 100000 in
set_option maxHeartbeats 1000000 in
theorem sides_any (x : List UInt8) (hx : x ≠ []) (w : World) :
    Calls Tryz.prog 70 #[.string ⟨x.toArray⟩] w fun y w' => y = .returned (.tuple #[.int .i64 (sds x).1, .int .i64 (sds x).2]) ∧ w' = w := by
  have hl : 0 < x.length := List.length_pos_iff.2 hx
  have hsz := Hu.size_of x
  have hg := Hu.get_at x 0 (by rw [hsz]; exact hl)
  rw [sg_get] at hg
  have hS := hide (show sds x = if sg x = 32 then (1, 1) else if sg x = 45 then (1, 0) else if sg x = 43 then (0, 1) else (0, 0) from rfl)
  by_cases h32 : sg x = 32
  · rw [h32] at hg
    have hS2 := hide (show sds x = (1, 1) by rw [hS.out, if_pos h32])
    clear hS h32 hx
    go_enter Tryz.func70, Tryz.ntmps70
    go_wp2
    go_ret2
    exact ⟨by rw [hS2.out]; rfl, rfl⟩
  have e32 : (((sg x).toNat : Int) == 32) = false := u8_ne h32
  by_cases h45 : sg x = 45
  · rw [h45] at hg e32
    have hS2 := hide (show sds x = (1, 0) by rw [hS.out, if_neg h32, if_pos h45])
    clear hS h32 hx h45
    go_enter Tryz.func70, Tryz.ntmps70
    go_wp2
    go_ret2
    exact ⟨by rw [hS2.out]; rfl, rfl⟩
  have e45 : (((sg x).toNat : Int) == 45) = false := u8_ne h45
  by_cases h43 : sg x = 43
  · rw [h43] at hg e32 e45
    have hS2 := hide (show sds x = (0, 1) by rw [hS.out, if_neg h32, if_neg h45, if_pos h43])
    clear hS h32 hx h45 h43
    go_enter Tryz.func70, Tryz.ntmps70
    go_wp2
    go_ret2
    exact ⟨by rw [hS2.out]; rfl, rfl⟩
  have e43 : (((sg x).toNat : Int) == 43) = false := u8_ne h43
  have hS2 := hide (show sds x = (0, 0) by rw [hS.out, if_neg h32, if_neg h45, if_neg h43])
  clear hS h32 hx h45 h43
  go_enter Tryz.func70, Tryz.ntmps70
  go_wp2
  go_ret2
  exact ⟨by rw [hS2.out]; rfl, rfl⟩
end Go.Proofs.YtnehgogajghefaaGreatDoor.Un
namespace Go.Proofs.YtnehgogajghefaaGreatDoor.Un
open Go Go.RowKit Kt Lw Li Df Hu

theorem RdM.keep {w w' : World} {B g : Nat} {b : Bool} {s : St} (h : RdM w B g b s) (hb : Below w.heap.size w w') : RdM w' B g b s := by
  obtain ⟨v, h1, h2⟩ := h.ex
  exact ⟨⟨v, h1.below hb h1.lt, h2.keep hb⟩⟩
/-- blocks ahead of B stand, but the reader's own, g -/
structure Fg (B g : Nat) (w w' : World) : Prop where
  os : w'.os = w.os
  tape : w'.tape = w.tape
  output : w'.output = w.output
  size : w.heap.size ≤ w'.heap.size
  block : ∀ k, k < B → k ≠ g → w'.heap[k]? = w.heap[k]?
theorem Fg.of {B g : Nat} {w w' : World} (h : Below B w w') : Fg B g w w' := ⟨h.os, h.tape, h.output, h.size, fun k hk _ => h.block k hk⟩
theorem Fg.trans {B g : Nat} {a b c : World} (h : Fg B g a b) (k : Fg B g b c) : Fg B g a c :=
  ⟨k.os.trans h.os, k.tape.trans h.tape, k.output.trans h.output, Nat.le_trans h.size k.size, fun i hi hne => (k.block i hi hne).trans (h.block i hi hne)⟩
theorem Fg.grown {B g : Nat} {a b c : World} (h : Fg B g a b) (hB : B ≤ b.heap.size) (k : b.grownBy c (some g)) : Fg B g a c :=
  ⟨k.os.trans h.os, k.tape.trans h.tape, k.output.trans h.output, Nat.le_trans h.size k.size, fun i hi hne => (k.block i (Nat.lt_of_lt_of_le hi hB) (fun e => by injection e with e; exact hne e)).trans (h.block i hi hne)⟩
theorem trim_end (y : List UInt8) (h : Lib.hasSuffix y [10] = true) : Lib.trimSuffix y [10] = y.dropLast := by
  rw [Lib.trimSuffix, if_pos h, List.dropLast_eq_take]
  rfl
/-- the last line of the last hunk is another one -/
theorem OP.last {w : World} {B go cap : Nat} {V : List (Hk × Value)} {a an b bn : Int} {L : Ls} {y z : List UInt8} {A : Option Addr} {n c : Nat} (h : OP w B go cap V ⟨a, an, b, bn, L ++ [y]⟩ (.slice A n c)) {gi : Nat} (hA : A = some ⟨gi, 0, none⟩) :
    OP (w.setCell ⟨gi, L.length, none⟩ (.string ⟨z.toArray⟩)) B go cap V ⟨a, an, b, bn, L ++ [z]⟩ (.slice A n c) := by
  subst hA
  obtain ⟨A', c', he, _⟩ := h.own.vs
  injection he with h1 h2 h3
  subst h2
  have hob : (Value.slice (some ⟨gi, 0, none⟩) (L ++ [y]).length c).ownBlock = some gi := rfl
  have hown : w.ownsRow B tS 1 (.slice (some ⟨gi, 0, none⟩) (L ++ [y]).length c) (L ++ [y]).length (texts (L ++ [y])) := h.own
  obtain ⟨hst, hg⟩ := World.ownsRow.stored hown L.length (.string ⟨z.toArray⟩)
  have hl : (L ++ [y]).length = (L ++ [z]).length := by simp
  have ht : (texts (L ++ [y])).set L.length (.string ⟨z.toArray⟩) = texts (L ++ [z]) := by
    rw [texts_append, texts_append, List.set_append_right _ _ (by rw [texts_len]; exact Nat.le_refl _), texts_len, Nat.sub_self]
    rfl
  rw [ht] at hst
  refine ⟨⟨World.ownsRow.kept h.out.row hg (.inr fun e => rowh_own h.out.row h.own e.symm), fun p hp => World.ownsRow.kept (h.out.rows p hp) hg (.inr (h.apart p hp gi rfl))⟩, ?_, h.apart⟩
  show World.ownsRow _ B tS 1 _ (L ++ [z]).length (texts (L ++ [z]))
  rw [← hl]
  exact hst
set_option maxRecDepth 100000 in
set_option maxHeartbeats 2000000 in
theorem noEnd_any (B g : Nat) (s : St) (x : List UInt8) (w : World) (h : RdM w B g (isW s) s) (hB : B ≤ w.heap.size) (hn : s.rv.length ≤ 1000000) (hl : ∀ e ∈ s.rv, e.lines.length ≤ 1000000 ∧ ∀ y ∈ e.lines, y.length ≤ 1000000) :
    Calls Tryz.prog 50 #[.pointer (some ⟨g, 0, none⟩), .string ⟨x.toArray⟩] w fun y w' => y = .returned (.bool (noEnd s x).isSome) ∧ RdM w' B g (isW s) ((noEnd s x).getD s) ∧ Below B w w' := by
  have HA := hide (ahead_any B g (isW s) s w h hn (fun e he => (hl e he).1))
  have hal : (ahd s.rv).length ≤ 1000000 := by
    cases hq : s.rv with
    | nil => simp [ahd]
    | cons e L =>
      rw [ahd]
      cases hg : e.lines.getLast? with
      | none => simp
      | some y => exact (hl e (by rw [hq]; exact List.mem_cons_self)).2 y (List.mem_of_getLast? hg)
  have HC := hide (fun w' => Tryz.strings_CutSuffix ⟨(ahd s.rv).toArray⟩ ⟨#[10]⟩ w' (by show (ahd s.rv).length ≤ _; omega))
  have HC := hide (show ∀ w', Calls Tryz.prog 60 #[.string ⟨(ahd s.rv).toArray⟩, .string ⟨#[10]⟩] w' fun e w'' => e = .returned (.tuple #[.string ⟨(Lib.trimSuffix (ahd s.rv) [10]).toArray⟩, .bool (Lib.hasSuffix (ahd s.rv) [10])]) ∧ w'' = w' from HC.out)
  have hbeq : (x == [92, 32, 78, 111, 32, 110, 101, 119, 108, 105, 110, 101, 32, 97, 116, 32, 101, 110, 100, 32, 111, 102, 32, 102, 105, 108, 101, 10]) = decide (x = markB) := by
    rw [Bool.eq_iff_iff, beq_iff_eq, decide_eq_true_iff]; exact Iff.rfl
  by_cases hc : x = markB ∧ Lib.hasSuffix (ahd s.rv) [10] = true
  · obtain ⟨hx, hsf⟩ := hc
    obtain ⟨v, hrow, hrv⟩ := h.ex
    cases hq : s.rv with
    | nil =>
      rw [hq] at hsf
      exact absurd hsf (by decide)
    | cons e V0 =>
      rw [hq] at hrv hn hl
      obtain ⟨go, cap, V, vi, rfl, hV, hop⟩ := hrv
      have hne : e.lines ≠ [] := fun h0 => by rw [hq, ahd, h0] at hsf; exact absurd hsf (by decide)
      obtain ⟨L, y, hL⟩ : ∃ L y, e.lines = L ++ [y] := ⟨_, _, (List.dropLast_concat_getLast hne).symm⟩
      have hah : ahd (e :: V0) = y := by simp [ahd, hL]
      have hah' : ahd s.rv = y := by rw [hq, hah]
      have htr := trim_end y (by rw [← hah']; exact hsf)
      have Hyes := hide (show noEnd s x = some ⟨⟨e.a, e.an, e.b, e.bn, L ++ [y.dropLast]⟩ :: V0, s.old, s.fresh⟩ by
        have h1 : noEnd s x = some ⟨⟨e.a, e.an, e.b, e.bn, e.lines.dropLast ++ [(ahd (e :: V0)).dropLast]⟩ :: V0, s.old, s.fresh⟩ := by
          unfold noEnd
          rw [hq]
          exact if_pos ⟨hx, by rw [← hq]; exact hsf⟩
        rw [h1, hah, hL, List.dropLast_concat])
      rw [hah'] at HA HC hsf
      rw [hsf, htr] at HC
      rw [decide_eq_true hx] at hbeq
      obtain ⟨Ai, ci, rfl, _⟩ := hop.own.vs
      obtain ⟨gi, rfl⟩ : ∃ gi, Ai = some ⟨gi, 0, none⟩ := by
        rcases hop.own.2 with ⟨h1, h2⟩ | ⟨gg, cc, cur, hv, _, _⟩
        · rw [hL] at h2; simp at h2
        · injection hv with hv1 _ _
          exact ⟨gg, hv1⟩
      have hcells : ∀ w', Below w.heap.size w w' → w'.cell? ⟨gi, L.length, none⟩ = some (.string ⟨y.toArray⟩) ∧ w'.frozen? ⟨gi, L.length, none⟩ = false := fun w' hb => by
        have hr : w'.ownsRow B tS 1 (.slice (some ⟨gi, 0, none⟩) e.lines.length ci) e.lines.length (texts e.lines) := (hop.keep hb).own
        refine ⟨?_, World.ownsRow.frozenAt hr _⟩
        have h1 := World.ownsRow.cellAt hr L.length (by rw [hL]; simp)
        rw [h1, texts_at _ _ (by rw [hL]; simp), hL]
        simp
      have hgB : B ≤ gi := (World.ownsRow.lt hop.own gi rfl).1
      have hggi : g ≠ gi := fun e => own_ne hop.own hrow tS_tR (by rw [e]; rfl)
      obtain ⟨N, hN⟩ : ∃ N, N = V.length := ⟨_, rfl⟩
      have hNl : N ≤ 1000000 := by
        have h1 := congrArg List.length hV
        simp at h1 hn
        omega
      have d4 := (hop.out.cell hN 4 (by omega)).1
      simp only [hkC, List.getElem?_cons_succ, List.getElem?_cons_zero] at d4
      have hcap : N + 1 ≤ cap := by have := hop.out.lt.2.2; omega
      have c1 := hrow.cell 1
      simp only [List.getElem?_cons_zero, List.getElem?_cons_succ] at c1
      rw [← hN] at c1
      obtain ⟨M, hM⟩ : ∃ M, M = N + 1 := ⟨_, rfl⟩
      rw [← hM] at c1 hcap
      have hwM : IntKind.i64.wrap ((M : Int) - 1) = (N : Int) := by rw [IntWalk.i64_in _ (by omega)]; omega
      have hnM : N < M := by omega
      have hll := (hl e List.mem_cons_self).1
      obtain ⟨n, hnn⟩ : ∃ n, n = e.lines.length := ⟨_, rfl⟩
      obtain ⟨m, hm⟩ : ∃ m, m = L.length := ⟨_, rfl⟩
      rw [← hm] at hcells
      have hmn : n = m + 1 := by rw [hnn, hL, hm]; simp
      rw [← hnn] at d4 hll
      have hmn2 : m < n := by omega
      have hwn : IntKind.i64.wrap ((n : Int) - 1) = (m : Int) := by rw [IntWalk.i64_in _ (by omega)]; omega
      have Hcells := hide hcells
      have Hfin := hide (fun w' (hb : Below w.heap.size w w') => show RdM (w'.setCell ⟨gi, m, none⟩ (.string ⟨y.dropLast.toArray⟩)) B g (isW s) ⟨⟨e.a, e.an, e.b, e.bn, L ++ [y.dropLast]⟩ :: V0, s.old, s.fresh⟩ from by
        refine ⟨⟨_, (hrow.below hb hrow.lt).off hggi _, ⟨go, cap, V, .slice (some ⟨gi, 0, none⟩) n ci, rfl, hV, ?_⟩⟩⟩
        have h1 := hop.keep hb
        rw [hm]
        obtain ⟨ea, ean, eb, ebn, els⟩ := e
        simp only at hL
        subst hL
        rw [← hnn] at h1
        exact OP.last h1 rfl)
      have Hsz := hide (show B ≤ w.heap.size from hB)
      rw [Hyes.out]
      clear h hrow hV hop hL hah hah' htr hcells hnn hm hl hn hN hM hsf hx hmn hal hq hne
      go_enter Tryz.func50, Tryz.ntmps50
      go_wp2_with fail
      refine HA.out.mono ?_
      rintro y1 w1 ⟨rfl, hb1⟩
      have Hb1 := hide hb1
      have e4 := cell_keep hb1 d4
      have e1 := cell_keep hb1 c1
      obtain ⟨ck, fk⟩ := Hcells.out w1 hb1
      clear hb1 d4 c1
      go_wp2_with fail
      refine (HC.out w1).mono ?_
      rintro y2 w2 ⟨rfl, rfl⟩
      go_wp2
      go_quiet (fail)
      go_wp2
      go_ret
      exact ⟨rfl, Hfin.out _ (below_drewN Hb1.out nq), ((below_drewN Hb1.out nq).mono Hsz.out).setCell (p := ⟨gi, m, none⟩) hgB _⟩
  · have Hno := hide (show noEnd s x = none by
      unfold noEnd
      cases hq : s.rv with
      | nil => rfl
      | cons e V => rw [hq] at hc; exact if_neg hc)
    have Hh := hide h
    have Hsz := hide (show B ≤ w.heap.size from hB)
    rw [Hno.out]
    obtain ⟨y, hy⟩ : ∃ y, y = Lib.trimSuffix (ahd s.rv) [10] := ⟨_, rfl⟩
    obtain ⟨q, hq⟩ : ∃ q, q = Lib.hasSuffix (ahd s.rv) [10] := ⟨_, rfl⟩
    rw [← hy, ← hq] at HC
    rw [← hq] at hc
    clear hy hq h hn hl
    generalize ahd s.rv = a at *
    by_cases hx : x = markB
    · have hqf : q = false := by cases q with | false => rfl | true => exact absurd ⟨hx, rfl⟩ hc
      rw [decide_eq_true hx] at hbeq
      rw [hqf] at HC
      clear hc hqf hx
      go_enter Tryz.func50, Tryz.ntmps50
      go_wp2_with fail
      refine HA.out.mono ?_
      rintro y1 w1 ⟨rfl, hb1⟩
      have Hh1 := hide hb1
      go_wp2_with fail
      refine (HC.out w1).mono ?_
      rintro y2 w2 ⟨rfl, rfl⟩
      go_wp2
      go_ret
      exact ⟨rfl, RdM.keep Hh.out Hh1.out, Hh1.out.mono Hsz.out⟩
    · have hxf : decide (x = markB) = false := decide_eq_false hx
      rw [hxf] at hbeq
      clear hc hx hxf
      go_enter Tryz.func50, Tryz.ntmps50
      go_wp2_with fail
      refine HA.out.mono ?_
      rintro y1 w1 ⟨rfl, hb1⟩
      have Hh1 := hide hb1
      go_wp2_with fail
      refine (HC.out w1).mono ?_
      rintro y2 w2 ⟨rfl, rfl⟩
      go_wp2
      go_ret
      exact ⟨rfl, RdM.keep Hh.out Hh1.out, Hh1.out.mono Hsz.out⟩
end Go.Proofs.YtnehgogajghefaaGreatDoor.Un
namespace Go.Proofs.YtnehgogajghefaaGreatDoor.Un
open Go Go.RowKit Kt Lw Li Df Hu

theorem Rv.owh {w : World} {B : Nat} {v : Value} {L : List Hk} (h : Rv w B v L) : OwH w B v L.reverse := by
  cases L with
  | nil =>
    have hv : v = .slice none 0 0 := h
    rw [hv]; exact OwH.nil _ _
  | cons e L =>
    obtain ⟨go, cap, V, vi, rfl, hV, hop⟩ := h
    rw [List.reverse_cons, ← hV]
    exact hop.out.shut hop.own
/-- append of a hunk that has no lines yet -/
theorem wp_pushN {o : Oper} {a : Act} {K : Act → World → Prop} {Q : Exit → Act → World → Prop} {W : World} (s x : Operand)
    (ho : o.op = .call { callee := .builtin .append, args := #[s, x], argTypes := #[27, 27] })
    (B : Nat) (w0 : World) (v : Value) (L : List Hk) (e : Hk) (he : e.lines = []) (cs : Array Value) (hs : a.eval s = v) (hx : a.eval x = .slice (some ⟨W.heap.size, 0, none⟩) 1 1) (hc : cs = (hkC e (.slice none 0 0)).toArray)
    (hown : Rv W B v L) (hlen : L.length + 1 ≤ 1000000000) (hb : Below B w0 W) (hbase : B ≤ W.heap.size)
    (h : ∀ v' w', Rv w' B v' (e :: L) → Below B w0 w' → W.grownBy w' v.ownBlock → (∃ A n c, v' = .slice A n c) → K (a.put o.dst v') w') : o.wp Tryz.prog a (W.alloc (.cells cs tH)) K Q := by
  obtain ⟨i0, hi0, hz0, hz1, hz2⟩ := info_parts infoHk
  subst hc
  obtain ⟨V, hV, hr, hi⟩ := hown.owh
  refine wp_append_own _ s x 27 ho B tH i0 (.agg #[.int .i64 0, .int .i64 0, .int .i64 0, .int .i64 0, .slice none 0 0]) 5 56 Tryz.underlying27 hi0 hz0 hz1 hz2 rfl (by omega) v L.reverse.length (V.flatMap hkP) hs (World.ownsRow.alloc hr _)
    ⟨W.heap.size, 0, none⟩ 1 1 (hkC e (.slice none 0 0)) hx rfl (fun j u hu => ?_) ?_ (by unfold maxLen; rw [List.length_reverse]; omega) (by rw [List.length_reverse]; omega) (by simp; omega) (fun v' w' h1 h2 _ => ?_)
  · rw [Addr.add_mid, (Row.fresh W tH (hkC e (.slice none 0 0)).toArray).cell]
    simpa using hu
  · intro u hu
    simp only [hkC, List.mem_cons, List.not_mem_nil, or_false] at hu
    rcases hu with rfl | rfl | rfl | rfl | rfl <;> rfl
  · have hg := grownBy_back _ h2
    have key : ∀ (u : Value) (l : Ls), OwT W B tS u l → OwT w' B tS u l := by
      intro u l hu
      refine World.ownsRow.kept hu hg ?_
      rcases hu.2 with ⟨rfl, _⟩ | ⟨g, cap, cur, rfl, _, hgg, _⟩
      · exact .inl rfl
      · right
        intro he
        rcases hr.2 with ⟨rfl, _⟩ | ⟨g', cap', cur', rfl, _, hgg', _⟩
        · cases he
        · simp only [Value.ownBlock, Option.some.injEq] at he
          subst he
          rw [hgg] at hgg'
          simp [tS, tH] at hgg'
    obtain ⟨g, cap, rfl⟩ : ∃ g cap, v' = .slice (some ⟨g, 0, none⟩) (L.reverse.length + 1) cap := by
      rcases h1.2 with ⟨_, h0⟩ | ⟨g, cap, cur, hv, _⟩
      · omega
      · exact ⟨g, cap, hv⟩
    have hVl : V.length = L.reverse.length := by rw [← hV, List.length_map]
    refine h _ _ ⟨g, cap, V, .slice none 0 0, by rw [hVl], hV, ⟨⟨by rw [hVl]; exact h1, fun p hp => key _ _ (hi p hp)⟩, by rw [he]; exact OwT.nil _ _ _, fun p hp b hb => (by cases hb)⟩⟩ (hb.grown hg hbase fun k hk => (World.ownsRow.lt hr k hk).1) hg ⟨_, _, _, rfl⟩
theorem Rv.form {w : World} {B : Nat} {v : Value} {L : List Hk} (h : Rv w B v L) : ∃ A n c, v = .slice A n c := by
  cases L with
  | nil => exact ⟨none, 0, 0, h⟩
  | cons e L =>
    obtain ⟨go, cap, V, vi, rfl, _, _⟩ := h
    exact ⟨_, _, _, rfl⟩
theorem Rv.blk {w : World} {B : Nat} {v : Value} {L : List Hk} (h : Rv w B v L) : ∀ b, v.ownBlock = some b → b < w.heap.size := fun b hb => by
  obtain ⟨V, _, hr, _⟩ := h.owh
  exact (World.ownsRow.lt hr b hb).2
theorem Rv.ne {w : World} {B g : Nat} {v : Value} {L : List Hk} {cs : List Value} (h : Rv w B v L) (hrow : Row w g tR cs) : v.ownBlock ≠ some g := by
  obtain ⟨V, _, hr, _⟩ := h.owh
  exact own_ne hr hrow tH_tR
end Go.Proofs.YtnehgogajghefaaGreatDoor.Un
namespace Go.Proofs.YtnehgogajghefaaGreatDoor.Un
open Go Go.RowKit Kt Lw Li Df Hu

theorem hd_yes {x : List UInt8} (h : hdOk x = true) : hd x = some ⟨(rdOld x).1, (rdOld x).2, (rdNew x).1, (rdNew x).2, []⟩ := if_pos (of_decide_eq_true h)
theorem hd_no {x : List UInt8} (h : hdOk x = false) : hd x = none := if_neg (of_decide_eq_false h)
set_option maxRecDepth 100000 in
set_option maxHeartbeats 4000000 in
theorem rhead_any (B g : Nat) (s : St) (x : List UInt8) (w : World) (h : RdM w B g (isW s) s) (hBw : B ≤ w.heap.size) (hE : Env w) (hxl : x.length ≤ 1000000) (hn : s.rv.length ≤ 1000000) (hl : ∀ e ∈ s.rv, e.lines.length ≤ 1000000 ∧ ∀ y ∈ e.lines, y.length ≤ 1000000) :
    Calls Tryz.prog 41 #[.pointer (some ⟨g, 0, none⟩), .string ⟨x.toArray⟩] w fun y w' => y = .returned (.bool (stepH s x).isSome) ∧ RdM w' B g (isW ((stepH s x).getD s)) ((stepH s x).getD s) ∧ Fg B g w w' := by
  have HR := hide (readHead_any x w hE hxl)
  have HK := hide (fun w' (hb : Below w.heap.size w w') => h.keep hb)
  have HNo := hide (fun w' (hb : Below w.heap.size w w') => noEnd_any B g s x w' (h.keep hb) (Nat.le_trans hBw hb.size) hn hl)
  have hgw : g < w.heap.size := h.ex.choose_spec.1.lt
  have Hn := hide hn
  cases hok : hdOk x with
  | false =>
    rw [hok] at HR
    have Hst := hide (show stepH s x = noEnd s x by unfold stepH; rw [hd_no hok])
    have Hw := hide (show isW ((noEnd s x).getD s) = isW s by
      unfold noEnd
      cases hq : s.rv with
      | nil => rfl
      | cons e V => simp only; split <;> rfl)
    rw [Hst.out, Hw.out]
    generalize (noEnd s x).getD s = s' at *
    generalize (noEnd s x).isSome = r at *
    clear h hE hn hl hok
    go_enter Tryz.func41, Tryz.ntmps41
    go_wp2_with fail
    refine HR.out.mono ?_
    rintro y w1 ⟨rfl, hb1⟩
    have Hb1 := hide hb1
    clear hb1
    go_wp2_with fail
    have hb2 := Hb1.out.alloc Hb1.out.size (.cells #[.int .i64 (rdOld x).1, .int .i64 (rdOld x).2, .int .i64 (rdNew x).1, .int .i64 (rdNew x).2, .slice none 0 0] tH)
    refine (HNo.out _ hb2).mono ?_
    rintro y w2 ⟨rfl, hrd, hb3⟩
    have Hrd := hide hrd
    have Hb3 := hide ((hb2.mono hBw).trans hb3)
    clear hrd hb2 hb3
    go_wp2
    go_ret
    exact ⟨rfl, Hrd.out, Fg.of Hb3.out⟩
  | true =>
    rw [hok] at HR
    have Hst := hide (show stepH s x = some ⟨⟨(rdOld x).1, (rdOld x).2, (rdNew x).1, (rdNew x).2, []⟩ :: s.rv, (rdOld x).2, (rdNew x).2⟩ by unfold stepH; rw [hd_yes hok])
    rw [Hst.out]
    clear h hE hn hl hok HNo Hst
    obtain ⟨a, ha⟩ : ∃ a, a = (rdOld x).1 := ⟨_, rfl⟩
    obtain ⟨an, han⟩ : ∃ an, an = (rdOld x).2 := ⟨_, rfl⟩
    obtain ⟨b, hb⟩ : ∃ b, b = (rdNew x).1 := ⟨_, rfl⟩
    obtain ⟨bn, hbn⟩ : ∃ bn, bn = (rdNew x).2 := ⟨_, rfl⟩
    rw [← ha, ← han, ← hb, ← hbn] at HR ⊢
    clear ha han hb hbn
    go_enter Tryz.func41, Tryz.ntmps41
    go_wp2_with fail
    refine HR.out.mono ?_
    rintro y w1 ⟨rfl, hb1⟩
    have Hb1 := hide hb1
    clear hb1
    go_upto_region 4 with fail
    obtain ⟨w2, hw2⟩ : ∃ w2, w2 = w1.alloc (.cells #[.int .i64 a, .int .i64 an, .int .i64 b, .int .i64 bn, .slice none 0 0] tH) := ⟨_, rfl⟩
    have hb2 : Below w.heap.size w w2 := by rw [hw2]; exact Hb1.out.alloc Hb1.out.size _
    have hq2 : Row w2 w1.heap.size tH [.int .i64 a, .int .i64 an, .int .i64 b, .int .i64 bn, .slice none 0 0] := by rw [hw2]; exact Row.fresh w1 tH _
    rw [← hw2]
    have hqw : w.heap.size ≤ w1.heap.size := Hb1.out.size
    obtain ⟨q, hq⟩ : ∃ q, q = w1.heap.size := ⟨_, rfl⟩
    obtain ⟨v, hrow, hrv⟩ := (HK.out w2 hb2).ex
    have hvq : v.ownBlock ≠ some q := fun e => by
      obtain ⟨v', hrow', hrv'⟩ := (HK.out w1 Hb1.out).ex
      have h1 := (hrow.cell 1)
      have h2 := ((hrow'.below (show Below w1.heap.size w1 w2 by rw [hw2]; exact (Below.refl _ w1).alloc (Nat.le_refl _) _) hrow'.lt).cell 1)
      simp only [List.getElem?_cons_zero, List.getElem?_cons_succ] at h1 h2
      rw [h1] at h2
      injection h2 with h2
      subst h2
      have := hrv'.blk q e
      omega
    rw [← hq] at hq2 hqw ⊢
    have hgq : g ≠ q := by omega
    have hvg := hrv.ne hrow
    obtain ⟨A, nv, cv, rfl⟩ := hrv.form
    have Hb2 := hide hb2
    have Hrow := hide hrow
    have Hrv := hide hrv
    have Hq2 := hide hq2
    have mg := hrow.drew.cell 1
    have m0 := hq2.drew.cell 0
    have m1 := hq2.drew.cell 1
    have m2 := hq2.drew.cell 2
    have m3 := hq2.drew.cell 3
    have m4 := hq2.drew.cell 4
    simp only [List.getElem?_cons_zero, List.getElem?_cons_succ] at mg m0 m1 m2 m3 m4
    clear hb2 hq2 hrow hrv hw2 hq
    refine Rg.wp_region_ord (fun w' => w'.cell? ⟨g, 1, none⟩ = some (.slice A nv cv) ∧ w'.cell? ⟨q, 0, none⟩ = some (.int .i64 a) ∧ w'.cell? ⟨q, 1, none⟩ = some (.int .i64 an) ∧ w'.cell? ⟨q, 2, none⟩ = some (.int .i64 b) ∧ w'.cell? ⟨q, 3, none⟩ = some (.int .i64 bn) ∧ w'.cell? ⟨q, 4, none⟩ = some (.slice none 0 0)) [(0, true), (1, true), (2, true), (3, true), (4, true), (5, true), (6, false), (7, false), (8, true), (9, true), (10, false)] (by kernel_rfl) (by kernel_rfl) ?_
    simp only [Rg.pick, List.map_cons, List.map_nil, List.getD_cons_zero, List.getD_cons_succ]
    iterate 6 (refine Rg.ord_quiet (v := ?_) rfl (fun w' hS => ?_) ⟨mg, m0, m1, m2, m3, m4⟩ ?_; rotate_left; (obtain ⟨sg1, s0, s1, s2, s3, s4⟩ := hS; go_simp; with_reducible rfl); simp only [Act.put, List.setIfInBounds_toArray, List.set_cons_succ, List.set_cons_zero])
    refine Rg.ord_loud rfl (fun K hK => ?_)
    go_simp
    refine hK _ _ (fun _ => ⟨cell_keep ((Below.refl _ _).alloc (Nat.le_refl _) _).drew mg, cell_keep ((Below.refl _ _).alloc (Nat.le_refl _) _).drew m0, cell_keep ((Below.refl _ _).alloc (Nat.le_refl _) _).drew m1, cell_keep ((Below.refl _ _).alloc (Nat.le_refl _) _).drew m2, cell_keep ((Below.refl _ _).alloc (Nat.le_refl _) _).drew m3, cell_keep ((Below.refl _ _).alloc (Nat.le_refl _) _).drew m4⟩) ?_
    clear hK K mg m0 m1 m2 m3 m4
    refine Rg.ord_loud rfl (fun K hK => ?_)
    refine wp_pushN (.tmp 21) (.tmp 23) rfl B w2.drew (.slice A nv cv) s.rv ⟨a, an, b, bn, []⟩ rfl _ rfl rfl rfl (Hrv.out.keep (Below.refl _ w2).drew) (by have := Hn.out; omega) (Below.refl _ _) (by have := Hb2.out.size; exact Nat.le_trans hBw this) ?_
    intro v7 w7 hv7 hb7 hg7 hform
    obtain ⟨A7, n7, c7, rfl⟩ := hform
    have Hrow7 := hide (Hrow.out.drew.grown hg7 (fun e => hvg e.symm))
    have Hq7 := hide (Hq2.out.drew.grown hg7 (fun e => hvq e.symm))
    have Hrv7 := hide hv7
    have Hb7 := hide ((Hb2.out.drew.mono hBw).trans hb7)
    have mg := Hrow7.out.cell 1
    have fg := Hrow7.out.free 1
    have m0 := Hq7.out.cell 0
    have m1 := Hq7.out.cell 1
    have m2 := Hq7.out.cell 2
    have m3 := Hq7.out.cell 3
    have m4 := Hq7.out.cell 4
    simp only [List.getElem?_cons_zero, List.getElem?_cons_succ] at mg m0 m1 m2 m3 m4
    clear hv7 hb7 hg7 Hrow Hq2 Hrv
    refine hK _ _ (fun _ => ⟨mg, m0, m1, m2, m3, m4⟩) ?_
    clear hK K
    try simp only [Act.put, List.setIfInBounds_toArray, List.set_cons_succ, List.set_cons_zero]
    iterate 2 (refine Rg.ord_quiet (v := ?_) rfl (fun w' hS => ?_) ⟨mg, m0, m1, m2, m3, m4⟩ ?_; rotate_left; (obtain ⟨sg1, s0, s1, s2, s3, s4⟩ := hS; go_simp; with_reducible rfl); simp only [Act.put, List.setIfInBounds_toArray, List.set_cons_succ, List.set_cons_zero])
    refine Rg.ord_loud rfl (fun K hK => ?_)
    go_simp
    refine hK _ _ (fun hf => absurd (show Rg.sink _ 10 = true from by kernel_rfl) (by rw [hf]; decide)) ?_
    clear hK K mg fg m0 m1 m2 m3 m4
    refine Rg.ord_nil ?_
    have hr8 := Hrow7.out.put 1 (.slice A7 n7 c7)
    simp only [List.set_cons_zero, List.set_cons_succ] at hr8
    have hq8 := Hq7.out.off (Ne.symm hgq) (i := 1) (.slice A7 n7 c7)
    have hrv8 := Hrv7.out.off Hrow7.out (put_grown w7 g 1 (.slice A7 n7 c7))
    have hBs7 : B ≤ w7.heap.size := Nat.le_trans hBw Hb7.out.size
    have hb8 := (Fg.of (g := g) Hb7.out).grown hBs7 (put_grown w7 g 1 (.slice A7 n7 c7))
    obtain ⟨w8, hw8⟩ : ∃ w8, w8 = w7.setCell ⟨g, 1, none⟩ (.slice A7 n7 c7) := ⟨_, rfl⟩
    rw [← hw8] at hr8 hq8 hrv8 hb8 ⊢
    have m1 := hq8.cell 1
    have m3 := hq8.cell 3
    simp only [List.getElem?_cons_zero, List.getElem?_cons_succ] at m1 m3
    have HLa := hide (lack_any g _ (.slice A7 n7 c7) _ _ an bn w8 hr8)
    have Hr8 := hide hr8
    have Hrv8 := hide hrv8
    have Hb8 := hide hb8
    clear hr8 hq8 hrv8 hb8 hw8 Hrow7 Hq7 Hrv7 Hb7
    go_wp2_with fail
    refine HLa.out.mono ?_
    rintro y9 w9 ⟨rfl, hr9, hg9⟩
    have Hrv9 := hide (Hrv8.out.off Hr8.out hg9)
    have Hr9 := hide hr9
    have Hb9 := hide (Hb8.out.grown (Nat.le_trans hBw Hb8.out.size) hg9)
    clear hr9 hg9 Hr8 Hrv8 Hb8 HLa
    go_wp2
    go_ret
    exact ⟨rfl, ⟨⟨_, Hr9.out, Hrv9.out⟩⟩, Hb9.out⟩
end Go.Proofs.YtnehgogajghefaaGreatDoor.Un
