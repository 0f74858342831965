/-
  patches: what reads a patch, with a reader embedded.
-/
import Derived.BigQuiet
import Derived.Laws.ResultCell
import Derived.Laws.Rows
import Derived.Test.YtahcokfoifdlmaaGreatDoorQWI
import Derived.Test.YtahcokfoifdlmaaGreatDoorQWK
namespace Go.Proofs.YtahcokfoifdlmaaGreatDoor.Tr
open Go Go.RowKit Kt Lw Li Lx Df Wr

section
variable {w w' : World} {B : Nat} {E : TypeId} {sz n : Nat} {v : Value} {cs : List Value}
theorem rw_put (h : w.ownsRow B E sz v n cs) {g i : Nat} (hg : ∀ b, v.ownBlock = some b → b ≠ g) (u : Value) : (w.setCell ⟨g, i, none⟩ u).ownsRow B E sz v n cs := by
  refine ⟨h.1, ?_⟩
  rcases h.2 with ⟨h1, h2⟩ | ⟨g', cap, cur, hv', h1, h2, h3⟩
  · exact .inl ⟨h1, h2⟩
  · exact .inr ⟨g', cap, cur, hv', h1, (Below.heap_setCell w ⟨g, i, none⟩ u g' (hg g' (by rw [hv']; rfl))).trans h2, h3⟩
theorem rw_only {S : Nat → Prop} (h : w.ownsRow B E sz v n cs) (ho : Only S w w') (hv : ∀ b, v.ownBlock = some b → ¬ S b) : w'.ownsRow B E sz v n cs := by
  refine ⟨h.1, ?_⟩
  rcases h.2 with ⟨h1, h2⟩ | ⟨g, cap, cur, hv', h1, h2, h3⟩
  · exact .inl ⟨h1, h2⟩
  · exact .inr ⟨g, cap, cur, hv', h1, (ho.block g (Array.getElem?_eq_some_iff.1 h2).1 (hv g (by rw [hv']; rfl))).trans h2, h3⟩
theorem rw_ne {g : Nat} {t : TypeId} {l : List Value} (hrow : Row w g t l) (ht : t ≠ E) (h : w.ownsRow B E sz v n cs) : ∀ b, v.ownBlock = some b → b ≠ g := by
  intro b hb e
  subst e
  rcases h.2 with ⟨rfl, _⟩ | ⟨g', cap, cur, rfl, _, hg', _⟩
  · cases hb
  · simp only [Value.ownBlock, Option.some.injEq] at hb
    subst hb
    unfold Row at hrow
    rw [hg'] at hrow
    simp only [Option.some.injEq, Obj.cells.injEq] at hrow
    exact ht hrow.2.1.symm
theorem rw_base {B' : Nat} (h : w.ownsRow B E sz v n cs) (hb : B' ≤ B) : w.ownsRow B' E sz v n cs :=
  ⟨h.1, h.2.imp id fun ⟨g, cap, cur, hv', h1, h2⟩ => ⟨g, cap, cur, hv', Nat.le_trans hb h1, h2⟩⟩
theorem rw_grown {r : Option Nat} (h : w.ownsRow B E sz v n cs) (hg : w.grownBy w' r) (hr : ∀ g, v.ownBlock = some g → some g ≠ r) : w'.ownsRow B E sz v n cs := by
  refine ⟨h.1, ?_⟩
  rcases h.2 with ⟨h1, h2⟩ | ⟨g, cap, cur, hv', h1, h2, h3⟩
  · exact .inl ⟨h1, h2⟩
  · exact .inr ⟨g, cap, cur, hv', h1, (hg.block g (Array.getElem?_eq_some_iff.1 h2).1 (hr g (by rw [hv']; rfl))).trans h2, h3⟩
end
theorem _root_.Go.Proofs.YtahcokfoifdlmaaGreatDoor.Wr.Only.news {S : Nat → Prop} {a b : World} (h : Only S a b) {g i : Nat} (hg : a.heap.size ≤ g) (u : Value) : Only S a (b.setCell ⟨g, i, none⟩ u) :=
  ⟨h.os, h.tape, h.output, by simpa [World.setCell] using h.size, fun k hk hn => (Below.heap_setCell b ⟨g, i, none⟩ u k (fun e => by have e' : k = g := e; omega)).trans (h.block k hk hn)⟩
theorem _root_.Go.Proofs.YtahcokfoifdlmaaGreatDoor.Wr.Only.alloc {S : Nat → Prop} {a b : World} (h : Only S a b) (o : Obj) : Only S a (b.alloc o) :=
  h.trans (Only.of_below S ((Below.refl _ b).alloc (Nat.le_refl _) o))
theorem _root_.Go.Proofs.YtahcokfoifdlmaaGreatDoor.Wr.Only.grown {S : Nat → Prop} {a b c : World} {r : Option Nat} (h : Only S a b) (hg : b.grownBy c r) (hr : ∀ x, r = some x → a.heap.size ≤ x) : Only S a c := by
  refine ⟨hg.os.trans h.os, hg.tape.trans h.tape, hg.output.trans h.output, Nat.le_trans h.size hg.size, fun i hi hn => ?_⟩
  exact (hg.block i (Nat.lt_of_lt_of_le hi h.size) fun e => by have := hr i e.symm; omega).trans (h.block i hi hn)
theorem _root_.Go.Proofs.YtahcokfoifdlmaaGreatDoor.Wr.RdP.at_ {w : World} {S : Nat → Prop} {g : Nat} {bs : Bs} {e : Nat} (h : RdP w S g bs e) : S g := by obtain ⟨_, _, _, _, h, _⟩ := h; exact h
theorem _root_.Go.Proofs.YtahcokfoifdlmaaGreatDoor.Wr.RdP.only {S T : Nat → Prop} {w w' : World} {g : Nat} {bs : Bs} {e : Nat} (h : RdP w S g bs e) (ho : Only T w w') (hT : ∀ k, S k → ¬ T k) : RdP w' S g bs e := by
  obtain ⟨A, c, hr, hs, h1, h2⟩ := h
  exact ⟨A, c, hr.only ho (hT g h1), hs.move fun b hb hlt => ho.block b hlt (hT b hb.1), h1, h2⟩

theorem rw_two {W : World} {b b' : Nat} {e e' : TypeId} {sz sz' : Nat} {v u : Value} {k k' : Nat} {xs xs' : List Value} (h : W.ownsRow b e sz v k xs) (h' : W.ownsRow b' e' sz' u k' xs') (hee : e ≠ e') : u.ownBlock = none ∨ u.ownBlock ≠ v.ownBlock := by
  rcases h'.2 with ⟨rfl, _⟩ | ⟨g', cap', cur', rfl, _, hg', _⟩
  · exact .inl rfl
  · refine .inr fun e0 => ?_
    rcases h.2 with ⟨rfl, _⟩ | ⟨g, cap, cur, rfl, _, hg, _⟩
    · cases e0
    · simp only [Value.ownBlock, Option.some.injEq] at e0
      rw [e0, hg] at hg'
      simp only [Option.some.injEq, Obj.cells.injEq] at hg'
      exact hee hg'.2.1
theorem row_off {w : World} {g : Nat} {t : TypeId} {cs : List Value} (h : Row w g t cs) {g' i : Nat} (hne : g ≠ g') (u : Value) : Row (w.setCell ⟨g', i, none⟩ u) g t cs := h.only ((Only.refl (· = g') w).put rfl u) hne
theorem results_cr {P : Program} {fn : Func} {p u : Tmp} {ty : TypeId} (h : fn.results = #[.cell p ty, .tmp u]) (tmps : Array Value) (w : World) (g : Nat) (t : TypeId) (cs : Array Value) (fr : Nat × Nat) (d : TypeDesc)
    (hp : tmps.getD p undef = .pointer (some ⟨g, 0, none⟩)) (hg : w.heap[g]? = some (.cells cs t fr))
    (hu : P.underlying ty = some d) (hd : (match d with | .struct _ | .array _ _ => true | _ => false) = true) (hi : (P.info? ty).map (·.size) = some cs.size) :
    (results fn tmps).run P w = .ok (.tuple #[.agg cs, tmps.getD u undef]) w := by
  rw [results_cell_tmp h, hp]
  simp [asAddr, Result.andThen, run_loadVar_row w g t ty cs fr d hg hu hd hi]
theorem sizeCh : (Tryz.prog.info? tC).map (·.size) = some 3 := by kernel_rfl
abbrev tRd : TypeId := 76
/-- a reader of patches in block G, with a reader in block g -/
structure RdQ (w : World) (S : Nat → Prop) (G g : Nat) (bs : Bs) (e : Nat) (lg od : Bool) : Prop where
  row : Row w G tRd [.pointer (some ⟨g, 0, none⟩), .bool lg, .bool od]
  rd : RdP w S g bs e
  ns : ¬ S G
section
variable {w w' : World} {S : Nat → Prop} {G g e : Nat} {bs : Bs} {lg od : Bool}
theorem RdQ.ne (h : RdQ w S G g bs e lg od) : G ≠ g := fun k => h.ns (by rw [k]; exact h.rd.at_)
theorem RdQ.keep (h : RdQ w S G g bs e lg od) (hb : Below w.heap.size w w') : RdQ w' S G g bs e lg od := ⟨h.row.below hb h.row.lt, h.rd.below hb, h.ns⟩
theorem RdQ.drew_ (h : RdQ w S G g bs e lg od) : RdQ w.drew S G g bs e lg od := h.keep (Below.refl _ w).drew
theorem _root_.Go.Proofs.YtahcokfoifdlmaaGreatDoor.Wr.RdP.drew_ (h : RdP w S g bs e) : RdP w.drew S g bs e := h.below (Below.refl _ w).drew
theorem RdQ.only {T : Nat → Prop} (h : RdQ w S G g bs e lg od) (ho : Only T w w') (hT : ∀ k, S k → ¬ T k) (hG : ¬ T G) : RdQ w' S G g bs e lg od := ⟨h.row.only ho hG, h.rd.only ho hT, h.ns⟩
theorem RdQ.turned {bs' : Bs} {e' : Nat} (h : RdQ w S G g bs e lg od) (hr : RdP w' S g bs' e') (ho : Only (· = g) w w') : RdQ w' S G g bs' e' lg od := ⟨h.row.only ho h.ne, hr, h.ns⟩
theorem RdQ.put1 (h : RdQ w S G g bs e lg od) (b : Bool) : RdQ (w.setCell ⟨G, 1, none⟩ (.bool b)) S G g bs e b od :=
  ⟨h.row.put 1 _, h.rd.only ((Only.refl (· = G) w).put rfl _) fun k hk e => h.ns (by rw [← e]; exact hk), h.ns⟩
theorem RdQ.put2 (h : RdQ w S G g bs e lg od) (b : Bool) : RdQ (w.setCell ⟨G, 2, none⟩ (.bool b)) S G g bs e lg b :=
  ⟨h.row.put 2 _, h.rd.only ((Only.refl (· = G) w).put rfl _) fun k hk e => h.ns (by rw [← e]; exact hk), h.ns⟩
theorem RdQ.news (h : RdQ w S G g bs e lg od) {r i : Nat} (hr : ¬ S r) (hG : r ≠ G) (u : Value) : RdQ (w.setCell ⟨r, i, none⟩ u) S G g bs e lg od :=
  h.only ((Only.refl (· = r) w).put rfl u) (fun k hk e => hr (by rw [← e]; exact hk)) (fun e => hG e.symm)
end
/-- what a reader of patches may turn -/
abbrev two (G g : Nat) : Nat → Prop := fun b => b = g ∨ b = G
set_option maxHeartbeats 1000000 in
set_option maxRecDepth 100000 in
theorem popen_any (bs : Bs) (A : Option Addr) (c : Nat) (Pb : Nat → Prop) (w : World) (hs : Sl w Pb A c bs) (hl : bs.length ≤ 70368744177664) :
    Calls Tryz.prog 29 #[.slice A bs.length c] w fun y w' => ∃ G g, y = .returned (.pointer (some ⟨G, 0, none⟩)) ∧ RdQ w' (fun b => w.heap.size ≤ b ∧ b < G) G g bs 0 false false ∧ w.heap.size ≤ G ∧ Below w.heap.size w w' := by
  have HO := hide (open_any bs A c Pb w hs hl)
  obtain ⟨n, hn⟩ : ∃ n, n = bs.length := ⟨_, rfl⟩
  rw [← hn] at HO ⊢
  clear hs hl hn
  go_enter Tryz.func29, Tryz.ntmps29
  go_wp2_with fail
  refine HO.out.mono ?_
  rintro y w1 ⟨g, rfl, hr, hb⟩
  have Hr := hide hr
  have Hb := hide hb
  clear hr hb HO
  go_wp2
  go_ret
  have hb1 := (Below.refl w1.heap.size w1).alloc (Nat.le_refl _) (.cells #[.pointer (some ⟨g, 0, none⟩), .bool false, .bool false] tRd)
  refine ⟨w1.heap.size, g, rfl, ⟨Row.fresh w1 tRd _, ((RdP.of Hr.out).imp fun b hb h => ⟨h, hb⟩).below hb1, fun h => Nat.lt_irrefl _ h.2⟩, Hb.out.size, Hb.out.alloc Hb.out.size _⟩
set_option maxHeartbeats 1000000 in
set_option maxRecDepth 100000 in
theorem many_any {w : World} {S : Nat → Prop} {G g e : Nat} {bs : Bs} {lg od : Bool} (most : Nat) (hm : most ≤ 1000) (h : RdQ w S G g bs e lg od) :
    Calls Tryz.prog 51 #[.pointer (some ⟨G, 0, none⟩), .int .u64 (most : Int)] w fun y w' => y = .returned (.int .i64 ((if most < (stepNum bs e).1 then 0 else (stepNum bs e).1 : Nat) : Int)) ∧ RdQ w' S G g (stepNum bs e).2.1 (stepNum bs e).2.2 (lg || decide (most < (stepNum bs e).1)) od ∧ Only (two G g) w w' := by
  have c0 : w.cell? ⟨G, 0, none⟩ = some (.pointer (some ⟨g, 0, none⟩)) := h.row.cell 0
  have H := hide h
  have HN := hide (readP_num h.rd)
  generalize (stepNum bs e).2.1 = b1 at *
  generalize (stepNum bs e).2.2 = e1 at *
  generalize (stepNum bs e).1 = n at *
  obtain ⟨z, hz⟩ : ∃ z : Nat, z = if most < n then 0 else n := ⟨_, rfl⟩
  rw [← hz]
  have Hz := hide hz
  clear h hz
  go_enter Tryz.func51, Tryz.ntmps51
  go_wp2_with fail
  refine HN.out.mono ?_
  rintro y w1 ⟨rfl, hr1, ho1⟩
  have hq := H.out.turned hr1 ho1
  have Hq := hide hq
  have Ho := hide (ho1.mono (T := two G g) fun k _ hk => .inl hk)
  have f1 := hq.row.free 1
  have c1 := hq.row.cell 1
  simp only [List.getElem?_cons_zero, List.getElem?_cons_succ] at c1
  clear hr1 ho1 HN c0 hq
  by_cases hlt : most < n
  · have d1 : decide ((most : Int) < (n : Int)) = true := decide_eq_true (by omega)
    have d2 : decide (most < n) = true := decide_eq_true hlt
    have Hlt := hide hlt
    clear hlt
    go_wp2
    go_ret
    refine ⟨by rw [Hz.out, if_pos Hlt.out]; rfl, ?_, Ho.out.put (.inr rfl) _⟩
    have := Hq.out.put1 true
    rw [decide_eq_true Hlt.out, Bool.or_true]
    exact this
  · have d1 : decide ((most : Int) < (n : Int)) = false := decide_eq_false (by omega)
    have d2 : decide (most < n) = false := decide_eq_false hlt
    have hcv : IntKind.i64.wrap (n : Int) = (n : Int) := by rw [IntKind.wrap_i64]; omega
    have Hlt := hide hlt
    clear hlt
    go_wp2
    go_ret
    refine ⟨by rw [Hz.out, if_neg Hlt.out]; rfl, ?_, Ho.out⟩
    rw [decide_eq_false Hlt.out, Bool.or_false]
    exact Hq.out
set_option maxHeartbeats 2000000 in
set_option maxRecDepth 100000 in
theorem rchange_any {w : World} {S : Nat → Prop} {G g e : Nat} {bs : Bs} {lg od : Bool} (hS : ∀ b, S b → b < w.heap.size) (h : RdQ w S G g bs e lg od)
    {p x b1 b2 b3 : Bs} {n e1 e2 e3 : Nat} (h1 : stepText bs e 200 = (p, b1, e1)) (h2 : stepNum b1 e1 = (n, b2, e2)) (h3 : stepText b2 e2 65536 = (x, b3, e3)) :
    Calls Tryz.prog 53 #[.pointer (some ⟨G, 0, none⟩)] w fun y w' => y = .returned (.agg #[.string ⟨p.toArray⟩, .bool (decide (n = 1)), .string ⟨x.toArray⟩]) ∧ RdQ w' S G g b3 e3 lg (od || decide (1 < n)) ∧ Only (two G g) w w' := by
  have hrow := Row.fresh w tC #[.string ⟨#[]⟩, .bool false, .string ⟨#[]⟩]
  have hb1 := (Below.refl w.heap.size w).alloc (Nat.le_refl _) (.cells #[.string ⟨#[]⟩, .bool false, .string ⟨#[]⟩] tC)
  obtain ⟨w1, hw1⟩ : ∃ w1, w1 = w.alloc (.cells #[.string ⟨#[]⟩, .bool false, .string ⟨#[]⟩] tC) := ⟨_, rfl⟩
  obtain ⟨R, hR⟩ : ∃ R, R = w.heap.size := ⟨_, rfl⟩
  rw [← hw1] at hrow hb1
  rw [← hR] at hrow
  have HGR := hide (show G ≠ R from fun k => by have := h.row.lt; omega)
  have HgR := hide (show g ≠ R from fun k => by have := hS g h.rd.at_; omega)
  have HSR := hide (show ¬ S R from fun k => by have := hS R k; omega)
  have hq1 := h.keep hb1
  have Hq1 := hide hq1
  have Ho1 := hide (Only.of_below (two G g) hb1)
  have Hrow1 := hide hrow
  have W1 := hide hw1
  have R1 := hide hR
  have HT1 := hide (show ∀ wz, RdP wz S g bs e → Calls Tryz.prog 52 #[.pointer (some ⟨g, 0, none⟩), .int .i64 200] wz fun y w' => ∃ v, y = .returned v ∧ Own w' wz.heap.size 5 v p ∧ RdP w' S g b1 e1 ∧ Only (· = g) wz w' from fun wz h => by
    have := readP_text 200 h (by omega)
    rwa [h1] at this)
  have HT2 := hide (show ∀ wz, RdP wz S g b1 e1 → Calls Tryz.prog 71 #[.pointer (some ⟨g, 0, none⟩)] wz fun y w' => y = .returned (.int .u64 (n : Nat)) ∧ RdP w' S g b2 e2 ∧ Only (· = g) wz w' from fun wz h => by
    have := readP_num h
    rwa [h2] at this)
  have HT3 := hide (show ∀ wz, RdP wz S g b2 e2 → Calls Tryz.prog 52 #[.pointer (some ⟨g, 0, none⟩), .int .i64 65536] wz fun y w' => ∃ v, y = .returned v ∧ Own w' wz.heap.size 5 v x ∧ RdP w' S g b3 e3 ∧ Only (· = g) wz w' from fun wz h => by
    have := readP_text 65536 h (by omega)
    rwa [h3] at this)
  have c0 : w1.cell? ⟨G, 0, none⟩ = some (.pointer (some ⟨g, 0, none⟩)) := hq1.row.cell 0
  clear h h1 h2 h3 hrow hb1 hw1 hR hq1 hS
  go_enter Tryz.func53, Tryz.ntmps53
  go_wp2_with (first | rw [← W1.out, ← R1.out] | fail)
  refine (HT1.out w1 Hq1.out.rd).mono ?_
  rintro y w2 ⟨v2, rfl, hv2, hr2, ho2⟩
  have hq2 := Hq1.out.turned hr2 ho2
  have Hq2 := hide hq2
  have Ho2 := hide (Ho1.out.trans (ho2.over (T := two G g) (Below.refl _ _) fun b _ h => .inl h))
  have Hrow2 := hide (Hrow1.out.only ho2 (fun k => HgR.out k.symm))
  have Hv2 := hide hv2
  have Hw12 := hide (show g < w1.heap.size from Hq1.out.rd.lt)
  have c0' : w2.cell? ⟨G, 0, none⟩ = some (.pointer (some ⟨g, 0, none⟩)) := hq2.row.cell 0
  clear hq2 hr2 ho2 hv2 Hq1 Ho1 Hrow1 HT1 c0
  go_wp2_with fail
  refine (HT2.out w2 Hq2.out.rd).mono ?_
  rintro y w3 ⟨rfl, hr3, ho3⟩
  have hq3 := Hq2.out.turned hr3 ho3
  have Hq3 := hide hq3
  have Ho3 := hide (Ho2.out.trans (ho3.over (T := two G g) (Below.refl _ _) fun b _ h => .inl h))
  have Hrow3 := hide (Hrow2.out.only ho3 (fun k => HgR.out k.symm))
  have Hv3 := hide (own_only Hv2.out ho3 fun b hb h => by have := (World.ownsRow.lt Hv2.out b hb).1; have := Hw12.out; omega)
  have c0 : w3.cell? ⟨G, 0, none⟩ = some (.pointer (some ⟨g, 0, none⟩)) := hq3.row.cell 0
  clear hq3 hr3 ho3 Hq2 Ho2 Hrow2 HT2 c0' Hv2
  go_wp2_with fail
  refine (HT3.out w3 Hq3.out.rd).mono ?_
  rintro y w4 ⟨v4, rfl, hv4, hr4, ho4⟩
  have hq4 := Hq3.out.turned hr4 ho4
  have Hq4 := hide hq4
  have Ho4 := hide (Ho3.out.trans (ho4.over (T := two G g) (Below.refl _ _) fun b _ h => .inl h))
  have Hrow4 := hide (Hrow3.out.only ho4 (fun k => HgR.out k.symm))
  have hv2' := own_only Hv3.out ho4 fun b hb h => by have := (World.ownsRow.lt Hv3.out b hb).1; have := Hw12.out; omega
  have Hv2' := hide hv2'
  have Hv4' := hide hv4
  have c0' : w4.cell? ⟨G, 0, none⟩ = some (.pointer (some ⟨g, 0, none⟩)) := hq4.row.cell 0
  have HG1 := hide (show G < w.heap.size ∨ True from .inr trivial)
  -- what is left, in the last world
  have Hend := hide (show ∀ (o : Bool) (wz : World), RdQ wz S G g b3 e3 lg o → Row wz R tC [.string ⟨#[]⟩, .bool false, .string ⟨#[]⟩] → Only (two G g) w wz → ∀ f0 f1 f2 : Value,
      RdQ (((wz.setCell ⟨R, 0, none⟩ f0).setCell ⟨R, 1, none⟩ f1).setCell ⟨R, 2, none⟩ f2) S G g b3 e3 lg o ∧ Only (two G g) w (((wz.setCell ⟨R, 0, none⟩ f0).setCell ⟨R, 1, none⟩ f1).setCell ⟨R, 2, none⟩ f2) from fun o wz hq _ ho f0 f1 f2 =>
    ⟨((hq.news HSR.out HGR.out.symm f0).news HSR.out HGR.out.symm f1).news HSR.out HGR.out.symm f2, ((ho.news (by rw [R1.out]; exact Nat.le_refl _) f0).news (by rw [R1.out]; exact Nat.le_refl _) f1).news (by rw [R1.out]; exact Nat.le_refl _) f2⟩)
  clear hv2' hv4 hr4 ho4 hq4 Hq3 Ho3 Hrow3 HT3 c0 Hv3
  by_cases hn : 1 < n
  · have d0 : ((n : Int) != 0) = true := by rw [bne_iff_ne]; omega
    have d1 : ((n : Int) != 1) = true := by rw [bne_iff_ne]; omega
    have d2 : ((n : Int) == 1) = false := by rw [beq_eq_false_iff_ne]; omega
    have d3 : (n == 1) = false := by rw [beq_eq_false_iff_ne]; omega
    have d4 : decide ((n : Int) = 1) = false := decide_eq_false (by omega)
    have Hd := hide (show decide (n = 1) = false ∧ (od || decide (1 < n)) = true from ⟨decide_eq_false (by omega), by rw [decide_eq_true hn, Bool.or_true]⟩)
    have f2 := Hq4.out.row.free 2
    have g2 : w4.cell? ⟨G, 2, none⟩ = some (.bool od) := Hq4.out.row.cell 2
    have hq5 := Hq4.out.put2 true
    have hrow5 : Row (w4.setCell ⟨G, 2, none⟩ (.bool true)) R tC [.string ⟨#[]⟩, .bool false, .string ⟨#[]⟩] := Hrow4.out.only ((Only.refl (· = G) w4).put rfl _) HGR.out.symm
    have ho5 := Ho4.out.put (g := G) (i := 2) (.inr rfl) (.bool true)
    have hp5 : Own (w4.setCell ⟨G, 2, none⟩ (.bool true)) w1.heap.size 5 v2 p := rw_put Hv2'.out (rw_ne Hq4.out.row (by decide) Hv2'.out) (.bool true)
    have hc2 := hp5.text 39 9 5 Tryz.underlying39 Tryz.underlying5 Tryz.underlying9
    have hx5 : Own (w4.setCell ⟨G, 2, none⟩ (.bool true)) w3.heap.size 5 v4 x := rw_put Hv4'.out (rw_ne Hq4.out.row (by decide) Hv4'.out) (.bool true)
    have hc4 := hx5.text 39 9 5 Tryz.underlying39 Tryz.underlying5 Tryz.underlying9
    have Hq5 := hide hq5
    have Hrow5 := hide hrow5
    have Ho5 := hide ho5
    obtain ⟨w5, hw5⟩ : ∃ w5, w4.setCell ⟨G, 2, none⟩ (.bool true) = w5 := ⟨_, rfl⟩
    rw [hw5] at hc2 hc4 Hq5 Hrow5 Ho5 hrow5
    have r0 := hrow5.free 0
    have r1 := hrow5.free 1
    have r2 := hrow5.free 2
    have s0 := hrow5.cell 0
    have s1 := hrow5.cell 1
    have s2 := hrow5.cell 2
    simp only [List.getElem?_cons_zero, List.getElem?_cons_succ] at s0 s1 s2
    obtain ⟨A2, k2, e2', _⟩ := Hv2'.out.sl
    obtain ⟨A4, k4, e4', _⟩ := Hv4'.out.sl
    subst e2' e4'
    clear hq5 hrow5 ho5 hn hp5 hx5
    go_wp2
    have hrf := (((Hrow5.out.put 0 (.string ⟨p.toArray⟩)).put 1 (.bool false)).put 2 (.string ⟨x.toArray⟩))
    obtain ⟨hq9, ho9⟩ := Hend.out _ w5 Hq5.out Hrow5.out Ho5.out (.string ⟨p.toArray⟩) (.bool false) (.string ⟨x.toArray⟩)
    exact bodyPost_ret (results_cell_row rfl _ _ R tC #[.string ⟨p.toArray⟩, .bool false, .string ⟨x.toArray⟩] (0, 0) _ rfl hrf Tryz.underlying32 rfl sizeCh) rfl ⟨by first | rfl | rw [Hd.out.1], by first | exact hq9 | (rw [Hd.out.2]; exact hq9), ho9⟩
  · have hn01 : n = 0 ∨ n = 1 := by omega
    clear hn
    rcases hn01 with rfl | rfl
    · have Hd := hide (show decide (0 = 1) = false ∧ (od || decide (1 < 0)) = od from ⟨rfl, by rw [show decide (1 < 0) = false from rfl, Bool.or_false]⟩)
      have hc2 := Hv2'.out.text 39 9 5 Tryz.underlying39 Tryz.underlying5 Tryz.underlying9
      have hc4 := Hv4'.out.text 39 9 5 Tryz.underlying39 Tryz.underlying5 Tryz.underlying9
      have hrow5 := Hrow4.out
      have r0 := hrow5.free 0
      have r1 := hrow5.free 1
      have r2 := hrow5.free 2
      have s0 := hrow5.cell 0
      have s1 := hrow5.cell 1
      have s2 := hrow5.cell 2
      simp only [List.getElem?_cons_zero, List.getElem?_cons_succ] at s0 s1 s2
      obtain ⟨A2, k2, e2', _⟩ := Hv2'.out.sl
      obtain ⟨A4, k4, e4', _⟩ := Hv4'.out.sl
      subst e2' e4'
      clear hrow5
      go_wp2
      have hrf := (((Hrow4.out.put 0 (.string ⟨p.toArray⟩)).put 1 (.bool false)).put 2 (.string ⟨x.toArray⟩))
      obtain ⟨hq9, ho9⟩ := Hend.out _ w4 Hq4.out Hrow4.out Ho4.out (.string ⟨p.toArray⟩) (.bool false) (.string ⟨x.toArray⟩)
      exact bodyPost_ret (results_cell_row rfl _ _ R tC #[.string ⟨p.toArray⟩, .bool false, .string ⟨x.toArray⟩] (0, 0) _ rfl hrf Tryz.underlying32 rfl sizeCh) rfl ⟨by first | rfl | rw [Hd.out.1], by first | exact hq9 | (rw [Hd.out.2]; exact hq9), ho9⟩
    · have Hd := hide (show decide (1 = 1) = true ∧ (od || decide (1 < 1)) = od from ⟨rfl, by rw [show decide (1 < 1) = false from rfl, Bool.or_false]⟩)
      have hc2 := Hv2'.out.text 39 9 5 Tryz.underlying39 Tryz.underlying5 Tryz.underlying9
      have hc4 := Hv4'.out.text 39 9 5 Tryz.underlying39 Tryz.underlying5 Tryz.underlying9
      have hrow5 := Hrow4.out
      have r0 := hrow5.free 0
      have r1 := hrow5.free 1
      have r2 := hrow5.free 2
      have s0 := hrow5.cell 0
      have s1 := hrow5.cell 1
      have s2 := hrow5.cell 2
      simp only [List.getElem?_cons_zero, List.getElem?_cons_succ] at s0 s1 s2
      obtain ⟨A2, k2, e2', _⟩ := Hv2'.out.sl
      obtain ⟨A4, k4, e4', _⟩ := Hv4'.out.sl
      subst e2' e4'
      clear hrow5
      go_wp2
      have hrf := (((Hrow4.out.put 0 (.string ⟨p.toArray⟩)).put 1 (.bool true)).put 2 (.string ⟨x.toArray⟩))
      obtain ⟨hq9, ho9⟩ := Hend.out _ w4 Hq4.out Hrow4.out Ho4.out (.string ⟨p.toArray⟩) (.bool true) (.string ⟨x.toArray⟩)
      exact bodyPost_ret (results_cell_row rfl _ _ R tC #[.string ⟨p.toArray⟩, .bool true, .string ⟨x.toArray⟩] (0, 0) _ rfl hrf Tryz.underlying32 rfl sizeCh) rfl ⟨by first | rfl | rw [Hd.out.1], by first | exact hq9 | (rw [Hd.out.2]; exact hq9), ho9⟩
end Go.Proofs.YtahcokfoifdlmaaGreatDoor.Tr
namespace Go.Proofs.YtahcokfoifdlmaaGreatDoor.Tr
open Go Go.RowKit Kt Lw Li Lx Df Wr

abbrev tI : TypeId := 50
theorem infoId : (Tryz.prog.info? 50).map (fun i => (i.zero, i.size, i.bytes)) = some (some (.string ⟨#[]⟩), 1, 16) := by kernel_rfl
theorem sizePt : (Tryz.prog.info? tP).map (·.size) = some 4 := by kernel_rfl
theorem ids_len : ∀ (n : Nat) (b : Bs) (e : Nat), (rdIds n b e).1.length = n
  | 0, _, _ => rfl
  | n + 1, b, e => by simp only [rdIds, List.length_cons]; rw [ids_len n]
theorem chs_len : ∀ (n : Nat) (b : Bs) (e : Nat), (rdChs n b e).1.1.length = n
  | 0, _, _ => rfl
  | n + 1, b, e => by simp only [rdChs, List.length_cons]; rw [chs_len n]
abbrev z4 (vi : Value) (a o : Bs) (vc : Value) : List Value := [vi, .string ⟨a.toArray⟩, .string ⟨o.toArray⟩, vc]
theorem RdQ.grown {w w' : World} {S : Nat → Prop} {G g e : Nat} {bs : Bs} {lg od : Bool} {r : Option Nat} (h : RdQ w S G g bs e lg od) (hg : w.grownBy w' r) (hr : ∀ b, r = some b → ¬ S b ∧ b ≠ G) : RdQ w' S G g bs e lg od :=
  ⟨h.row.grown hg fun e => (hr G e.symm).2 rfl, rdp_grown h.rd hg fun b hb => (hr b hb).1, h.ns⟩
set_option maxHeartbeats 8000000 in
set_option maxRecDepth 100000 in
theorem rpatch_any {w : World} {S : Nat → Prop} {G g e : Nat} {bs : Bs} {lg od : Bool} (hS : ∀ b, S b → b < w.heap.size) (h : RdQ w S G g bs e lg od)
    {n0 n m0 m e1 e2 e3 e4 e5 e6 : Nat} {b1 b2 b3 b4 b5 b6 a o : Bs} {ids : List Bs} {chs : List Ch} {o6 : Bool}
    (h1 : stepNum bs e = (n0, b1, e1)) (hn : n = if 16 < n0 then 0 else n0) (h2 : rdIds n b1 e1 = (ids, b2, e2)) (h3 : stepText b2 e2 100 = (a, b3, e3)) (h4 : stepText b3 e3 1000 = (o, b4, e4))
    (h5 : stepNum b4 e4 = (m0, b5, e5)) (hm : m = if 100 < m0 then 0 else m0) (h6 : rdChs m b5 e5 = ((chs, o6), b6, e6)) :
    Calls Tryz.prog 30 #[.pointer (some ⟨G, 0, none⟩)] w fun y w' => ∃ vi vc, y = .returned (.agg #[vi, .string ⟨a.toArray⟩, .string ⟨o.toArray⟩, vc]) ∧ OwT w' w.heap.size tI vi ids ∧ OwC w' w.heap.size vc chs ∧
      RdQ w' S G g b6 e6 (lg || decide (16 < n0) || decide (100 < m0)) (od || o6) ∧ Only (two G g) w w' := by
  have hn16 : n ≤ 16 := by rw [hn]; split <;> omega
  have hm100 : m ≤ 100 := by rw [hm]; split <;> omega
  obtain ⟨R, hR⟩ : ∃ R, R = w.heap.size := ⟨_, rfl⟩
  obtain ⟨w1, hw1⟩ : ∃ w1, w1 = (w.alloc (.cells #[.slice none 0 0, .string ⟨#[]⟩, .string ⟨#[]⟩, .slice none 0 0] tP)).alloc (.cells #[.slice none 0 0, .string ⟨#[]⟩, .string ⟨#[]⟩, .slice none 0 0] tP) := ⟨_, rfl⟩
  have r1 : Row w1 R tP (z4 (.slice none 0 0) [] [] (.slice none 0 0)) := by rw [hw1, hR]; exact (Row.fresh w _ _).alloc _
  have r2 : Row w1 (R + 1) tP (z4 (.slice none 0 0) [] [] (.slice none 0 0)) := by rw [hw1, hR]; exact Row.new _ _ (by simp) rfl
  have hb1 : Below w.heap.size w w1 := by rw [hw1]; exact ((Below.refl _ w).alloc (Nat.le_refl _) _).alloc (by simp) _
  have hq1 := h.keep hb1
  have HM1 := hide (show ∀ wz, RdQ wz S G g bs e lg od → _ from fun wz hz => many_any 16 (by omega) hz)
  rw [h1] at HM1
  simp only [← hn] at HM1
  have HT3 := hide (show ∀ wz, RdP wz S g b2 e2 → Calls Tryz.prog 52 #[.pointer (some ⟨g, 0, none⟩), .int .i64 100] wz fun y w' => ∃ v, y = .returned v ∧ Own w' wz.heap.size 5 v a ∧ RdP w' S g b3 e3 ∧ Only (· = g) wz w' from fun wz h => by
    have := readP_text 100 h (by omega)
    rwa [h3] at this)
  have HT4 := hide (show ∀ wz, RdP wz S g b3 e3 → Calls Tryz.prog 52 #[.pointer (some ⟨g, 0, none⟩), .int .i64 1000] wz fun y w' => ∃ v, y = .returned v ∧ Own w' wz.heap.size 5 v o ∧ RdP w' S g b4 e4 ∧ Only (· = g) wz w' from fun wz h => by
    have := readP_text 1000 h (by omega)
    rwa [h4] at this)
  have HM5 := hide (show ∀ (l : Bool) wz, RdQ wz S G g b4 e4 l od → _ from fun l wz hz => many_any 100 (by omega) hz)
  rw [h5] at HM5
  simp only [← hm] at HM5
  have H2 := hide h2
  have H6 := hide h6
  have Hq1 := hide hq1
  have Ho1 := hide (Only.of_below (two G g) hb1)
  have HR1 := hide r1
  have HP1 := hide r2
  have HSw := hide hS
  have HGw := hide (show G < w.heap.size from h.row.lt)
  have HRw := hide hR
  have HgS := hide (show S g from h.rd.at_)
  have Hns := hide (show ¬ S G from h.ns)
  have HnGg := hide (show G ≠ g from h.ne)
  -- blocks apart
  have HPn := hide (show R + 1 ≠ G ∧ R + 1 ≠ g ∧ R ≠ G ∧ R ≠ g ∧ ¬ S R ∧ ¬ S (R + 1) from ⟨by have := h.row.lt; omega, by have := hS g h.rd.at_; omega, by have := h.row.lt; omega, by have := hS g h.rd.at_; omega, fun k => by have := hS _ k; omega, fun k => by have := hS _ k; omega⟩)
  have W1 := hide hw1
  obtain ⟨P0, hP0⟩ : ∃ P, P = R + 1 := ⟨_, rfl⟩
  rw [← hP0] at HP1 HPn
  have HP0 := hide hP0
  obtain ⟨l1, hl1⟩ : ∃ l, l = (lg || decide (16 < n0)) := ⟨_, rfl⟩
  rw [← hl1] at HM1 ⊢
  clear h h1 hn h2 h3 h4 h5 hm h6 hl1 r1 r2 hb1 hq1 hw1 hS hR hP0
  go_enter Tryz.func30, Tryz.ntmps30
  go_wp2_with (first | rw [← W1.out, ← HRw.out, ← HP0.out] | fail)
  refine (HM1.out w1 Hq1.out).mono ?_
  rintro y w2 ⟨rfl, hq2, ho2⟩
  have Hq2 := hide hq2
  have Ho2 := hide (Ho1.out.trans (ho2.over (T := two G g) (Below.refl _ _) fun b _ h => h))
  have HR2 := hide (HR1.out.only ho2 fun k => k.elim HPn.out.2.2.2.1 HPn.out.2.2.1)
  have HP2 := hide (HP1.out.only ho2 fun k => k.elim HPn.out.2.1 HPn.out.1)
  clear hq2 ho2 Hq1 Ho1 HR1 HP1 HM1
  go_wp2_with fail
  go_loopw [6] (fun i wr => ∃ (k : Nat) (vi : Value) (L : List Bs) (b : Bs) (x : Nat), k ≤ n ∧ i = .int .i64 k ∧ OwT wr w.heap.size tI vi L ∧ Hid (L.length = k) ∧ Row wr P0 tP (z4 vi [] [] (.slice none 0 0)) ∧ Row wr R tP (z4 (.slice none 0 0) [] [] (.slice none 0 0)) ∧ RdQ wr S G g b x l1 od ∧ Hid (rdIds n b1 e1 = (L ++ (rdIds (n - k) b x).1, (rdIds (n - k) b x).2)) ∧ Only (two G g) w wr) (fun i _ => n - (intOf i).toNat)
  case atStart => exact ⟨0, _, [], b1, e1, Nat.zero_le _, rfl, OwT.nil _ _ _, by show Hid _; exact hide rfl, HP2.out, HR2.out, Hq2.out, by show Hid _; exact hide (by rw [List.nil_append, Nat.sub_zero]), Ho2.out⟩
  case round =>
    obtain ⟨k, vi, L, b, x, hk, rfl, hown, HL, hP, hR, hq, HF, ho⟩ := hrel
    clear Hq2 Ho2 HR2 HP2
    have Hown := hide hown
    have HPr := hide hP
    have HRr := hide hR
    have Hq := hide hq
    have Ho := hide ho
    clear hown hP hR hq ho
    by_cases hlt : k < n
    · obtain ⟨t, b', x', ht⟩ : ∃ t b' x', stepText b x 32 = (t, b', x') := ⟨_, _, _, rfl⟩
      have Hst := hide (show rdIds n b1 e1 = ((L ++ [t]) ++ (rdIds (n - (k + 1)) b' x').1, (rdIds (n - (k + 1)) b' x').2) by
        rw [HF.out, show n - k = (n - (k + 1)) + 1 by omega, rdIds]
        simp only [ht]
        rw [List.append_assoc]; rfl)
      have hT1 := readP_text 32 Hq.out.rd.drew_ (by omega)
      rw [ht] at hT1
      have HT1 := hide hT1
      have c0 : wr.drew.cell? ⟨P0, 0, none⟩ = some vi := HPr.out.cell 0
      have c1 : wr.drew.cell? ⟨G, 0, none⟩ = some (.pointer (some ⟨g, 0, none⟩)) := Hq.out.row.cell 0
      clear ht hT1 HF
      go_wp2
      refine Rg.wp_region_ord (fun w' => w'.cell? ⟨P0, 0, none⟩ = some vi ∧ w'.cell? ⟨G, 0, none⟩ = some (.pointer (some ⟨g, 0, none⟩))) [(0, true), (1, true), (2, true), (3, true), (4, true), (5, true), (6, false), (7, false), (8, false), (9, false), (10, true), (11, false)] (by kernel_rfl) (by kernel_rfl) ?_
      simp only [Rg.pick, List.map_cons, List.map_nil, List.getD_cons_zero, List.getD_cons_succ]
      iterate 6 (refine Rg.ord_quiet (v := ?_) rfl (fun w' hS => ?_) ⟨c0, c1⟩ ?_; rotate_left; (obtain ⟨s0, s1⟩ := hS; go_simp; with_reducible rfl); simp only [Act.put, List.setIfInBounds_toArray, List.set_cons_succ, List.set_cons_zero])
      refine Rg.ord_loud rfl (fun K hK => ?_)
      go_simp
      refine HT1.out.mono ?_
      rintro y w5 ⟨v5, rfl, hv5, hr5, ho5⟩
      have hq5 := Hq.out.drew_.turned hr5 ho5
      have hP5 := Row.only (S := (· = g)) (show Row wr.drew P0 tP _ from HPr.out) ho5 HPn.out.2.1
      have hR5 := Row.only (S := (· = g)) (show Row wr.drew R tP _ from HRr.out) ho5 HPn.out.2.2.2.1
      have ho5' := Ho.out.drew.trans (ho5.over (T := two G g) (Below.refl _ _) fun b _ h => .inl h)
      have hown5 : OwT w5 w.heap.size tI vi L := rw_only (w := wr.drew) Hown.out ho5 fun b hb e => by have := (World.ownsRow.lt Hown.out b hb).1; have := HSw.out g HgS.out; omega
      have c0' : w5.cell? ⟨P0, 0, none⟩ = some vi := hP5.cell 0
      have c1' : w5.cell? ⟨G, 0, none⟩ = some (.pointer (some ⟨g, 0, none⟩)) := hq5.row.cell 0
      have hc5 := hv5.text 39 tI 5 Tryz.underlying39 Tryz.underlying5 Tryz.underlying50
      have Hsz5 := hide (show w.heap.size ≤ w5.heap.size from ho5'.size)
      have Hq5 := hide hq5
      have HP5 := hide hP5
      have HR5 := hide hR5
      have Ho5 := hide ho5'
      have Hown5 := hide hown5
      obtain ⟨A5, k5, rfl, _⟩ := hv5.sl
      refine hK _ _ (fun _ => ⟨c0', c1'⟩) ?_
      clear hK K c0 c1 hq5 hP5 hR5 ho5 ho5' hown5 hv5 hr5 Hown HPr HRr Hq Ho HT1
      refine Rg.ord_loud rfl (fun K hK => ?_)
      go_simp
      refine hK _ _ (fun _ => ⟨c0', c1'⟩) ?_
      clear hK K
      have Hown5a := hide (Hown5.out.alloc (.cells #[.string ⟨t.toArray⟩] tI))
      have HX := hide (Vs.one w5 tI t)
      obtain ⟨w6, hw6⟩ : ∃ w6, w6 = w5.alloc (.cells #[.string ⟨t.toArray⟩] tI) := ⟨_, rfl⟩
      have hb6 : Below w5.heap.size w5 w6 := by rw [hw6]; exact (Below.refl _ w5).alloc (Nat.le_refl _) _
      refine Rg.ord_loud rfl (fun K hK => ?_)
      go_simp
      rw [← hw6] at Hown5a HX ⊢
      have e0 := agr c0' hb6
      have e1' := agr c1' hb6
      have Hb6 := hide hb6
      refine hK _ _ (fun _ => ⟨e0, e1'⟩) ?_
      clear hK K hw6 hb6 Hown5
      refine Rg.ord_loud rfl (fun K hK => ?_)
      refine wp_catT (.tmp 9) (.tmp 16) 28 rfl Tryz.underlying28 infoId w.heap.size w6 vi L [t] _ _ 1 rfl rfl Hown5a.out HX.out (by rw [HL.out]; simp; omega) (Below.refl _ _) (Nat.le_trans Hsz5.out Hb6.out.size) ?_
      intro v7 w7 hown7 _ hg7
      obtain ⟨A7, c7, e7, _⟩ := hown7.vs
      obtain ⟨n7, hn7⟩ : ∃ n, n = (L ++ [t]).length := ⟨_, rfl⟩
      rw [← hn7] at e7
      subst e7
      have hne : ∀ b, vi.ownBlock = some b → w.heap.size ≤ b := fun b hb => (World.ownsRow.lt Hown5a.out b hb).1
      have hP7 := (HP5.out.below Hb6.out HP5.out.lt).grown hg7 fun e => rw_ne (HP5.out.below Hb6.out HP5.out.lt) (by decide) Hown5a.out P0 e.symm rfl
      have hR7 := (HR5.out.below Hb6.out HR5.out.lt).grown hg7 fun e => rw_ne (HR5.out.below Hb6.out HR5.out.lt) (by decide) Hown5a.out R e.symm rfl
      have hq7 := (Hq5.out.keep Hb6.out).grown hg7 fun b hb => ⟨fun k => by have := hne b hb; have := HSw.out b k; omega, fun k => by have := hne b hb; have := HGw.out; omega⟩
      have ho7 := (Ho5.out.trans (Only.of_below (two G g) Hb6.out)).grown hg7 fun b hb => hne b hb
      have c0 : w7.cell? ⟨P0, 0, none⟩ = some vi := hP7.cell 0
      have c1 : w7.cell? ⟨G, 0, none⟩ = some (.pointer (some ⟨g, 0, none⟩)) := hq7.row.cell 0
      have f0 := hP7.free 0
      have Hown7 := hide hown7
      have HP7 := hide hP7
      have HR7 := hide hR7
      have Hq7 := hide hq7
      have Ho7 := hide ho7
      refine hK _ _ (fun _ => ⟨c0, c1⟩) ?_
      clear hK K c0' c1' e0 e1' hn7 hg7 hne hP7 hR7 hq7 ho7 hown7 Hown5a HX Hb6 HP5 HR5 Hq5 Ho5 hc5
      simp only [Act.put, List.setIfInBounds_toArray, List.set_cons_succ, List.set_cons_zero]
      iterate 1 (refine Rg.ord_quiet (v := ?_) rfl (fun w' hS => ?_) ⟨c0, c1⟩ ?_; rotate_left; (obtain ⟨s0, s1⟩ := hS; go_simp; with_reducible rfl); simp only [Act.put, List.setIfInBounds_toArray, List.set_cons_succ, List.set_cons_zero])
      refine Rg.ord_loud rfl (fun K hK => ?_)
      go_simp
      refine hK _ _ (fun hf => absurd (show Rg.sink _ 11 = true from by kernel_rfl) (by rw [hf]; decide)) ?_
      clear hK K
      refine Rg.ord_nil ?_
      have hP8 := Hown7.out
      have hown8 : OwT (w7.setCell ⟨P0, 0, none⟩ (.slice A7 n7 c7)) w.heap.size tI (.slice A7 n7 c7) (L ++ [t]) := rw_put Hown7.out (rw_ne HP7.out (by decide) Hown7.out) _
      have hP8 := HP7.out.put 0 (.slice A7 n7 c7)
      have hR8 := row_off HR7.out (g' := P0) (i := 0) (by rw [HP0.out]; omega) (.slice A7 n7 c7)
      have hq8 := Hq7.out.news (i := 0) HPn.out.2.2.2.2.2 HPn.out.1 (.slice A7 n7 c7)
      have ho8 := Ho7.out.news (g := P0) (i := 0) (by rw [HP0.out, HRw.out]; omega) (.slice A7 n7 c7)
      have HL2 : Hid ((L ++ [t]).length = k + 1) := hide (by rw [List.length_append, HL.out]; rfl)
      clear c0 c1 f0
      go_wp2
      exact ⟨⟨k + 1, _, L ++ [t], b', x', by omega, by go_num, hown8, HL2, hP8, hR8, hq8, by show Hid _; exact Hst, ho8⟩, by simp [intOf]; omega⟩
    · obtain rfl : k = n := by omega
      have hF := HF.out
      rw [Nat.sub_self, rdIds, List.append_nil, H2.out] at hF
      simp only [Prod.mk.injEq] at hF
      obtain ⟨rfl, rfl, rfl⟩ := hF
      have c1 : wr.cell? ⟨G, 0, none⟩ = some (.pointer (some ⟨g, 0, none⟩)) := Hq.out.row.cell 0
      obtain ⟨wv, hwv⟩ : ∃ z, z = wr := ⟨_, rfl⟩
      subst hwv
      clear HF
      go_wp2_with fail
      refine (HT3.out wv Hq.out.rd).mono ?_
      rintro y w8 ⟨v8, rfl, hv8, hr8, ho8⟩
      have hq8 := Hq.out.turned hr8 ho8
      have hP8 := Row.only (S := (· = g)) HPr.out ho8 HPn.out.2.1
      have hR8 := Row.only (S := (· = g)) HRr.out ho8 HPn.out.2.2.2.1
      have hw8 := Ho.out.trans (ho8.over (T := two G g) (Below.refl _ _) fun b _ h => .inl h)
      have hown8 : OwT w8 w.heap.size tI vi ids := rw_only Hown.out ho8 fun b hb e => by have := (World.ownsRow.lt Hown.out b hb).1; have := HSw.out g HgS.out; omega
      have hc8 := hv8.text 39 9 5 Tryz.underlying39 Tryz.underlying5 Tryz.underlying9
      obtain ⟨A8, k8, rfl, _⟩ := hv8.sl
      have d8 := hP8.cell 1
      have f8 := hP8.free 1
      simp only [z4, List.getElem?_cons_zero, List.getElem?_cons_succ] at d8
      have hq9 := hq8.news (i := 1) HPn.out.2.2.2.2.2 HPn.out.1 (.string ⟨a.toArray⟩)
      have hP9 := hP8.put 1 (.string ⟨a.toArray⟩)
      have hR9 := row_off hR8 (g' := P0) (i := 1) (by rw [HP0.out]; omega) (.string ⟨a.toArray⟩)
      have hw9 := hw8.news (g := P0) (i := 1) (by rw [HP0.out, HRw.out]; omega) (.string ⟨a.toArray⟩)
      have hown9 : OwT (w8.setCell ⟨P0, 1, none⟩ (.string ⟨a.toArray⟩)) w.heap.size tI vi ids := rw_put hown8 (rw_ne hP8 (by decide) hown8) _
      obtain ⟨w9, he9⟩ : ∃ z, w8.setCell ⟨P0, 1, none⟩ (.string ⟨a.toArray⟩) = z := ⟨_, rfl⟩
      rw [he9] at hq9 hP9 hR9 hw9 hown9
      replace Hq := hide hq9
      replace HPr := hide hP9
      replace HRr := hide hR9
      replace Ho := hide hw9
      replace Hown := hide hown9
      clear c1
      have c1 : w9.cell? ⟨G, 0, none⟩ = some (.pointer (some ⟨g, 0, none⟩)) := hq9.row.cell 0
      clear hq8 hP8 hR8 hw8 hown8 hv8 hr8 ho8 hq9 hP9 hR9 hw9 hown9
      go_wp2_with fail
      refine (HT4.out w9 Hq.out.rd).mono ?_
      rintro y w10 ⟨v10, rfl, hv10, hr10, ho10⟩
      have hq10 := Hq.out.turned hr10 ho10
      have hP10 := Row.only (S := (· = g)) HPr.out ho10 HPn.out.2.1
      have hR10 := Row.only (S := (· = g)) HRr.out ho10 HPn.out.2.2.2.1
      have hw10 := Ho.out.trans (ho10.over (T := two G g) (Below.refl _ _) fun b _ h => .inl h)
      have hown10 : OwT w10 w.heap.size tI vi ids := rw_only Hown.out ho10 fun b hb e => by have := (World.ownsRow.lt Hown.out b hb).1; have := HSw.out g HgS.out; omega
      have hc10 := hv10.text 39 9 5 Tryz.underlying39 Tryz.underlying5 Tryz.underlying9
      obtain ⟨A10, k10, rfl, _⟩ := hv10.sl
      have d10 := hP10.cell 2
      have f10 := hP10.free 2
      simp only [z4] at d10
      have hq11 := hq10.news (i := 2) HPn.out.2.2.2.2.2 HPn.out.1 (.string ⟨o.toArray⟩)
      have hP11 := hP10.put 2 (.string ⟨o.toArray⟩)
      have hR11 := row_off hR10 (g' := P0) (i := 2) (by rw [HP0.out]; omega) (.string ⟨o.toArray⟩)
      have hw11 := hw10.news (g := P0) (i := 2) (by rw [HP0.out, HRw.out]; omega) (.string ⟨o.toArray⟩)
      have hown11 : OwT (w10.setCell ⟨P0, 2, none⟩ (.string ⟨o.toArray⟩)) w.heap.size tI vi ids := rw_put hown10 (rw_ne hP10 (by decide) hown10) _
      obtain ⟨w11, he11⟩ : ∃ z, w10.setCell ⟨P0, 2, none⟩ (.string ⟨o.toArray⟩) = z := ⟨_, rfl⟩
      rw [he11] at hq11 hP11 hR11 hw11 hown11
      replace Hq := hide hq11
      replace HPr := hide hP11
      replace HRr := hide hR11
      replace Ho := hide hw11
      replace Hown := hide hown11
      clear c1
      have c1 : w11.cell? ⟨G, 0, none⟩ = some (.pointer (some ⟨g, 0, none⟩)) := hq11.row.cell 0
      clear hq10 hP10 hR10 hw10 hown10 hv10 hr10 ho10 hq11 hP11 hR11 hw11 hown11
      go_wp2_with fail
      refine (HM5.out l1 w11 Hq.out).mono ?_
      rintro y w12 ⟨rfl, hq12, ho12⟩
      have Hq12 := hide hq12
      have Ho12 := hide (Ho.out.trans (ho12.over (T := two G g) (Below.refl _ _) fun b _ h => h))
      have HR12 := hide (HRr.out.only ho12 fun k => k.elim HPn.out.2.2.2.1 HPn.out.2.2.1)
      have HP12 := hide (HPr.out.only ho12 fun k => k.elim HPn.out.2.1 HPn.out.1)
      have Hown12 : Hid (OwT w12 w.heap.size tI vi ids) := hide (rw_only Hown.out ho12 fun b hb e => by
        have h1 := (World.ownsRow.lt Hown.out b hb).1
        have h2 := HSw.out g HgS.out
        have h3 := HGw.out
        rcases e with e | e <;> omega)
      obtain ⟨l2, hl2⟩ : ∃ l, l = (l1 || decide (100 < m0)) := ⟨_, rfl⟩
      rw [← hl2] at Hq12
      have Hl2 := hide hl2
      clear hq12 ho12 hl2 Hq Ho HRr HPr Hown c1 HM5 HT3 HT4 hc8 hc10 d8 d10 f8 f10 he9 he11
      obtain ⟨nI, hnI⟩ : ∃ z, z = ids.length := ⟨_, rfl⟩
      go_wp2_with fail
      go_loopw [36] (fun i wr => ∃ (j : Nat) (vc : Value) (L : List Ch) (b : Bs) (x : Nat) (d : Bool), j ≤ m ∧ i = .int .i64 j ∧ OwC wr w.heap.size vc L ∧ Hid (L.length = j) ∧ OwT wr w.heap.size tI vi ids ∧ Row wr P0 tP (z4 vi a o vc) ∧ Row wr R tP (z4 (.slice none 0 0) [] [] (.slice none 0 0)) ∧ RdQ wr S G g b x l2 (od || d) ∧ Hid (rdChs m b5 e5 = ((L ++ (rdChs (m - j) b x).1.1, d || (rdChs (m - j) b x).1.2), (rdChs (m - j) b x).2)) ∧ Only (two G g) w wr) (fun i _ => m - (intOf i).toNat)
      case atStart => exact ⟨0, _, [], b5, e5, false, Nat.zero_le _, rfl, OwC.nil _ _, by show Hid _; exact hide rfl, Hown12.out, HP12.out, HR12.out, by rw [Bool.or_false]; exact Hq12.out, by show Hid _; exact hide (by rw [List.nil_append, Nat.sub_zero, Bool.false_or]), Ho12.out⟩
      case round =>
        obtain ⟨j, vc, L2, b, x, d, hj, rfl, hown, HL2, hids, hP, hR, hq, HF, ho⟩ := hrel
        clear Hq12 Ho12 HR12 HP12 Hown12 HL
        have Hown := hide hown
        have Hids := hide hids
        have HPr := hide hP
        have HRr := hide hR
        have Hq := hide hq
        have Ho := hide ho
        clear hown hids hP hR hq ho
        by_cases hlt : j < m
        · obtain ⟨p, X1, y1, hs1⟩ : ∃ p X1 y1, stepText b x 200 = (p, X1, y1) := ⟨_, _, _, rfl⟩
          obtain ⟨q, X2, y2, hs2⟩ : ∃ q X2 y2, stepNum X1 y1 = (q, X2, y2) := ⟨_, _, _, rfl⟩
          obtain ⟨t, X3, y3, hs3⟩ : ∃ t X3 y3, stepText X2 y2 65536 = (t, X3, y3) := ⟨_, _, _, rfl⟩
          have Hst := hide (show rdChs m b5 e5 = (((L2 ++ [⟨p, decide (q = 1), t⟩]) ++ (rdChs (m - (j + 1)) X3 y3).1.1, (d || decide (1 < q)) || (rdChs (m - (j + 1)) X3 y3).1.2), (rdChs (m - (j + 1)) X3 y3).2) by
            rw [HF.out, show m - j = (m - (j + 1)) + 1 by omega, rdChs]
            simp only [hs1, hs2, hs3]
            rw [List.append_assoc, Bool.or_assoc]; rfl)
          have HT := hide (rchange_any (w := wr.drew) (fun b hb => Nat.lt_of_lt_of_le (HSw.out b hb) Ho.out.size) Hq.out.drew_ hs1 hs2 hs3)
          have c0 : wr.drew.cell? ⟨P0, 3, none⟩ = some vc := HPr.out.cell 3
          clear hs1 hs2 hs3 HF
          go_wp2
          refine Rg.wp_region_ord (fun w' => w'.cell? ⟨P0, 3, none⟩ = some vc ∧ True) [(0, true), (1, true), (2, true), (3, false), (4, false), (5, false), (6, true), (7, false)] (by kernel_rfl) (by kernel_rfl) ?_
          simp only [Rg.pick, List.map_cons, List.map_nil, List.getD_cons_zero, List.getD_cons_succ]
          iterate 3 (refine Rg.ord_quiet (v := ?_) rfl (fun w' hS => ?_) ⟨c0, trivial⟩ ?_; rotate_left; (obtain ⟨s0, _⟩ := hS; go_simp; with_reducible rfl); simp only [Act.put, List.setIfInBounds_toArray, List.set_cons_succ, List.set_cons_zero])
          refine Rg.ord_loud rfl (fun K hK => ?_)
          go_simp
          refine HT.out.mono ?_
          rintro y w5 ⟨rfl, hq5, ho5⟩
          have hP5 := Row.only (S := two G g) (show Row wr.drew P0 tP _ from HPr.out) ho5 fun k => k.elim HPn.out.2.1 HPn.out.1
          have hR5 := Row.only (S := two G g) (show Row wr.drew R tP _ from HRr.out) ho5 fun k => k.elim HPn.out.2.2.2.1 HPn.out.2.2.1
          have ho5' := Ho.out.drew.trans (ho5.over (T := two G g) (Below.refl _ _) fun b _ h => h)
          have hlo : ∀ (v : Value) (B2 : Nat) (hb2 : w.heap.size ≤ B2), B2 = w.heap.size → ∀ b, w.heap.size ≤ b → ¬ two G g b := fun _ _ _ _ b hb e => by
            have h2 := HSw.out g HgS.out
            have h3 := HGw.out
            rcases e with e | e <;> omega
          have hown5 : OwC w5 w.heap.size vc L2 := rw_only (w := wr.drew) Hown.out ho5 fun b hb => hlo vc _ (Nat.le_refl _) rfl b (World.ownsRow.lt Hown.out b hb).1
          have hids5 : OwT w5 w.heap.size tI vi ids := rw_only (w := wr.drew) Hids.out ho5 fun b hb => hlo vc _ (Nat.le_refl _) rfl b (World.ownsRow.lt Hids.out b hb).1
          have c0' : w5.cell? ⟨P0, 3, none⟩ = some vc := hP5.cell 3
          have Hsz5 := hide (show w.heap.size ≤ w5.heap.size from ho5'.size)
          have Hq5 := hide hq5
          have HP5 := hide hP5
          have HR5 := hide hR5
          have Ho5 := hide ho5'
          have Hown5 := hide hown5
          have Hids5 := hide hids5
          refine hK _ _ (fun _ => ⟨c0', trivial⟩) ?_
          clear hK K c0 hq5 hP5 hR5 ho5 ho5' hlo hown5 hids5 Hown Hids HPr HRr Hq Ho HT
          refine Rg.ord_loud rfl (fun K hK => ?_)
          go_simp
          have hb6 : Below w5.heap.size w5 (w5.alloc (.cells #[.string ⟨p.toArray⟩, .bool (decide (q = 1)), .string ⟨t.toArray⟩] tC)) := (Below.refl _ w5).alloc (Nat.le_refl _) _
          refine hK _ _ (fun _ => ⟨agr c0' hb6, trivial⟩) ?_
          clear hK K
          refine Rg.ord_loud rfl (fun K hK => ?_)
          have hne : ∀ b, vc.ownBlock = some b → w.heap.size ≤ b := fun b hb => (World.ownsRow.lt Hown5.out b hb).1
          refine wp_pushC (.tmp 39) (.tmp 42) rfl w.heap.size w5 vc L2 ⟨p, decide (q = 1), t⟩ _ rfl rfl rfl Hown5.out (by rw [HL2.out]; omega) (Below.refl _ _) Hsz5.out ?_
          intro v7 w7 hown7 _ hg7
          obtain ⟨A7, c7, e7, _⟩ := hown7.fls
          obtain ⟨n7, hn7⟩ : ∃ n, n = (L2 ++ [(⟨p, decide (q = 1), t⟩ : Ch)]).length := ⟨_, rfl⟩
          rw [← hn7] at e7
          subst e7
          have hP7 := HP5.out.grown hg7 fun e => rw_ne HP5.out (by decide) Hown5.out P0 e.symm rfl
          have hR7 := HR5.out.grown hg7 fun e => rw_ne HR5.out (by decide) Hown5.out R e.symm rfl
          have hq7 := Hq5.out.grown hg7 fun b hb => ⟨fun k => by have := hne b hb; have := HSw.out b k; omega, fun k => by have := hne b hb; have := HGw.out; omega⟩
          have ho7 := Ho5.out.grown hg7 fun b hb => hne b hb
          have hids7 : OwT w7 w.heap.size tI vi ids := rw_grown Hids5.out hg7 fun b hb e => by
            rcases rw_two Hown5.out Hids5.out (by decide) with h | h
            · rw [h] at hb; cases hb
            · exact h (by rw [hb, e])
          have c0 : w7.cell? ⟨P0, 3, none⟩ = some vc := hP7.cell 3
          have f0 := hP7.free 3
          have Hown7 := hide hown7
          have Hids7 := hide hids7
          have HP7 := hide hP7
          have HR7 := hide hR7
          have Hq7 := hide hq7
          have Ho7 := hide ho7
          refine hK _ _ (fun _ => ⟨c0, trivial⟩) ?_
          clear hK K c0' hb6 hn7 hg7 hne hP7 hR7 hq7 ho7 hown7 hids7 HP5 HR5 Hq5 Ho5 Hown5 Hids5
          simp only [Act.put, List.setIfInBounds_toArray, List.set_cons_succ, List.set_cons_zero]
          iterate 1 (refine Rg.ord_quiet (v := ?_) rfl (fun w' hS => ?_) ⟨c0, trivial⟩ ?_; rotate_left; (obtain ⟨s0, _⟩ := hS; go_simp; with_reducible rfl); simp only [Act.put, List.setIfInBounds_toArray, List.set_cons_succ, List.set_cons_zero])
          refine Rg.ord_loud rfl (fun K hK => ?_)
          go_simp
          refine hK _ _ (fun hf => absurd (show Rg.sink _ 7 = true from by kernel_rfl) (by rw [hf]; decide)) ?_
          clear hK K
          refine Rg.ord_nil ?_
          have hown8 : OwC (w7.setCell ⟨P0, 3, none⟩ (.slice A7 n7 c7)) w.heap.size (.slice A7 n7 c7) (L2 ++ [⟨p, decide (q = 1), t⟩]) := rw_put Hown7.out (rw_ne HP7.out (by decide) Hown7.out) _
          have hids8 : OwT (w7.setCell ⟨P0, 3, none⟩ (.slice A7 n7 c7)) w.heap.size tI vi ids := rw_put Hids7.out (rw_ne HP7.out (by decide) Hids7.out) _
          have hP8 := HP7.out.put 3 (.slice A7 n7 c7)
          have hR8 := row_off HR7.out (g' := P0) (i := 3) (by rw [HP0.out]; omega) (.slice A7 n7 c7)
          have hq8 := Hq7.out.news (i := 3) HPn.out.2.2.2.2.2 HPn.out.1 (.slice A7 n7 c7)
          have ho8 := Ho7.out.news (g := P0) (i := 3) (by rw [HP0.out, HRw.out]; omega) (.slice A7 n7 c7)
          have HL3 : Hid ((L2 ++ [(⟨p, decide (q = 1), t⟩ : Ch)]).length = j + 1) := hide (by rw [List.length_append, HL2.out]; rfl)
          clear c0 f0
          go_wp2
          exact ⟨⟨j + 1, _, _, X3, y3, d || decide (1 < q), by omega, by go_num, hown8, HL3, hids8, hP8, hR8, by rw [← Bool.or_assoc]; exact hq8, by show Hid _; exact Hst, ho8⟩, by simp [intOf]; omega⟩
        · obtain rfl : j = m := by omega
          have hF := HF.out
          rw [Nat.sub_self, rdChs, List.append_nil, Bool.or_false, H6.out] at hF
          simp only [Prod.mk.injEq] at hF
          obtain ⟨⟨rfl, rfl⟩, rfl, rfl⟩ := hF
          have c0 := HPr.out.cell 0
          have c1 := HPr.out.cell 1
          have c2 := HPr.out.cell 2
          have c3 := HPr.out.cell 3
          have s0 := HRr.out.cell 0
          have s1 := HRr.out.cell 1
          have s2 := HRr.out.cell 2
          have s3 := HRr.out.cell 3
          have f0 := HRr.out.free 0
          have f1 := HRr.out.free 1
          have f2 := HRr.out.free 2
          have f3 := HRr.out.free 3
          simp only [z4, List.getElem?_cons_zero, List.getElem?_cons_succ] at c0 c1 c2 c3 s0 s1 s2 s3
          obtain ⟨A9, c9, e9, _⟩ := Hown.out.fls
          obtain ⟨B9, d9, g9, _⟩ := Hids.out.vs
          obtain ⟨n9, hn9⟩ : ∃ n, n = chs.length := ⟨_, rfl⟩
          obtain ⟨m9, hm9⟩ : ∃ n, n = ids.length := ⟨_, rfl⟩
          rw [← hn9] at e9
          rw [← hm9] at g9
          subst e9 g9
          clear HF hn9 hm9
          go_wp2
          have hrf := (((HRr.out.put 0 (.slice B9 m9 d9)).put 1 (.string ⟨a.toArray⟩)).put 2 (.string ⟨o.toArray⟩)).put 3 (.slice A9 n9 c9)
          have hfin : ∀ (wz : World) (i : Nat) (u : Value), OwT wz w.heap.size tI (.slice B9 m9 d9) ids ∧ OwC wz w.heap.size (.slice A9 n9 c9) chs ∧ RdQ wz S G g b6 e6 l2 (od || o6) ∧ Only (two G g) w wz ∧ (∃ cs, Row wz R tP cs) →
              OwT (wz.setCell ⟨R, i, none⟩ u) w.heap.size tI (.slice B9 m9 d9) ids ∧ OwC (wz.setCell ⟨R, i, none⟩ u) w.heap.size (.slice A9 n9 c9) chs ∧ RdQ (wz.setCell ⟨R, i, none⟩ u) S G g b6 e6 l2 (od || o6) ∧ Only (two G g) w (wz.setCell ⟨R, i, none⟩ u) ∧ (∃ cs, Row (wz.setCell ⟨R, i, none⟩ u) R tP cs) := by
            rintro wz i u ⟨k1, k2, k3, k4, cs, k5⟩
            exact ⟨rw_put k1 (rw_ne k5 (by decide) k1) _, rw_put k2 (rw_ne k5 (by decide) k2) _, k3.news HPn.out.2.2.2.2.1 HPn.out.2.2.1 u, k4.news (by rw [HRw.out]; exact Nat.le_refl _) u, _, k5.put i u⟩
          have hf9 := hfin _ 3 (.slice A9 n9 c9) (hfin _ 2 (.string ⟨o.toArray⟩) (hfin _ 1 (.string ⟨a.toArray⟩) (hfin _ 0 (.slice B9 m9 d9) ⟨Hids.out, Hown.out, Hq.out, Ho.out, _, HRr.out⟩)))
          exact bodyPost_ret (results_cell_row rfl _ _ R tP #[.slice B9 m9 d9, .string ⟨a.toArray⟩, .string ⟨o.toArray⟩, .slice A9 n9 c9] (0, 0) _ rfl hrf Tryz.underlying30 rfl sizePt) rfl ⟨_, _, rfl, hf9.1, hf9.2.1, by rw [← Hl2.out]; exact hf9.2.2.1, hf9.2.2.2.1⟩
end Go.Proofs.YtahcokfoifdlmaaGreatDoor.Tr
namespace Go.Proofs.YtahcokfoifdlmaaGreatDoor.Tr
open Go Go.RowKit Kt Lw Li Lx Df Wr

theorem pdecode_rd {bs : Bs} {n0 n m0 m e1 e2 e3 e4 e5 e6 : Nat} {b1 b2 b3 b4 b5 b6 a o : Bs} {ids : List Bs} {chs : List Ch} {o6 : Bool}
    (h1 : stepNum bs 0 = (n0, b1, e1)) (hn : n = if 16 < n0 then 0 else n0) (h2 : rdIds n b1 e1 = (ids, b2, e2)) (h3 : stepText b2 e2 100 = (a, b3, e3)) (h4 : stepText b3 e3 1000 = (o, b4, e4))
    (h5 : stepNum b4 e4 = (m0, b5, e5)) (hm : m = if 100 < m0 then 0 else m0) (h6 : rdChs m b5 e5 = ((chs, o6), b6, e6)) (hl : ¬ 131072 < bs.length) :
    pdecode bs = if (decide (16 < n0) || decide (100 < m0)) = true then (noPch, 4) else if endOf b6 e6 ≠ 0 then (noPch, endOf b6 e6) else if (o6 || !pright ⟨ids, a, o, chs⟩) = true then (noPch, 3) else (⟨ids, a, o, chs⟩, 0) := by
  unfold pdecode
  rw [if_neg hl, h1]
  simp only []
  by_cases g1 : 16 < n0
  · rw [if_pos g1, decide_eq_true g1, Bool.true_or, if_pos rfl]
  · rw [if_neg g1] at hn ⊢
    subst hn
    rw [h2]
    simp only []
    rw [h3]
    simp only []
    rw [h4]
    simp only []
    rw [h5]
    simp only []
    by_cases g2 : 100 < m0
    · rw [if_pos g2, decide_eq_true g2, Bool.or_true, if_pos rfl]
    · rw [if_neg g2] at hm ⊢
      subst hm
      rw [h6, decide_eq_false g1, decide_eq_false g2]
      rfl
theorem text_short (bs : Bs) (e : Nat) (most : Int) : (stepText bs e most).1.length ≤ bs.length ∧ (stepText bs e most).2.1.length ≤ bs.length := by
  refine ⟨text_len bs e most, ?_⟩
  unfold stepText
  split
  · simp only [List.length_drop]; omega
  · exact Nat.le_refl _
theorem num_short (bs : Bs) (e : Nat) : (stepNum bs e).2.1.length ≤ bs.length := by
  unfold stepNum
  split
  · simp only [List.length_drop]; omega
  · exact Nat.le_refl _
theorem ids_short : ∀ (n : Nat) (b : Bs) (e : Nat), (∀ q ∈ (rdIds n b e).1, q.length ≤ b.length) ∧ (rdIds n b e).2.1.length ≤ b.length
  | 0, b, e => ⟨fun q hq => (by cases hq), Nat.le_refl _⟩
  | n + 1, b, e => by
    have h := text_short b e 32
    obtain ⟨i1, i2⟩ := ids_short n (stepText b e 32).2.1 (stepText b e 32).2.2
    simp only [rdIds]
    refine ⟨fun q hq => ?_, by omega⟩
    rcases List.mem_cons.1 hq with rfl | hq
    · exact h.1
    · exact Nat.le_trans (i1 q hq) h.2
theorem chs_short : ∀ (n : Nat) (b : Bs) (e : Nat), (∀ c ∈ (rdChs n b e).1.1, c.path.length ≤ b.length ∧ c.text.length ≤ b.length)
  | 0, b, e => fun c hc => (by cases hc)
  | n + 1, b, e => by
    have h := text_short b e 200
    have hg := num_short (stepText b e 200).2.1 (stepText b e 200).2.2
    have hx := text_short (stepNum (stepText b e 200).2.1 (stepText b e 200).2.2).2.1 (stepNum (stepText b e 200).2.1 (stepText b e 200).2.2).2.2 65536
    have i1 := chs_short n (stepText (stepNum (stepText b e 200).2.1 (stepText b e 200).2.2).2.1 (stepNum (stepText b e 200).2.1 (stepText b e 200).2.2).2.2 65536).2.1 (stepText (stepNum (stepText b e 200).2.1 (stepText b e 200).2.2).2.1 (stepNum (stepText b e 200).2.1 (stepText b e 200).2.2).2.2 65536).2.2
    simp only [rdChs]
    intro c hc
    rcases List.mem_cons.1 hc with rfl | hc
    · exact ⟨h.1, by simp only; omega⟩
    · obtain ⟨k1, k2⟩ := i1 c hc
      exact ⟨by omega, by omega⟩
set_option maxHeartbeats 1000000 in
set_option maxRecDepth 100000 in
theorem fault_any {w : World} {S : Nat → Prop} {G g e : Nat} {bs : Bs} {lg od : Bool} (h : RdQ w S G g bs e lg od) :
    Calls Tryz.prog 31 #[.pointer (some ⟨G, 0, none⟩)] w fun y w' => y = .returned (.int .i64 ((if lg then 4 else endOf bs e : Nat) : Int)) ∧ Below w.heap.size w w' := by
  have c0 : w.cell? ⟨G, 0, none⟩ = some (.pointer (some ⟨g, 0, none⟩)) := h.row.cell 0
  have c1 : w.cell? ⟨G, 1, none⟩ = some (.bool lg) := h.row.cell 1
  have HE := hide (end_any (RdP.rd (h.rd.imp (T := fun b => 0 ≤ b) fun b _ _ => Nat.zero_le b)))
  clear h
  cases lg with
  | true =>
    go_enter Tryz.func31, Tryz.ntmps31
    go_wp2
    go_ret
    exact ⟨rfl, Below.refl _ _⟩
  | false =>
    generalize endOf bs e = x at *
    go_enter Tryz.func31, Tryz.ntmps31
    go_wp2_with fail
    refine HE.out.mono ?_
    rintro y w1 ⟨rfl, hb1⟩
    have Hb1 := hide hb1
    clear hb1 HE c0 c1
    go_wp2
    go_ret
    exact ⟨rfl, Hb1.out⟩
set_option maxHeartbeats 8000000 in
set_option maxRecDepth 100000 in
theorem pdecode_any (bs : Bs) (A : Option Addr) (c : Nat) (Pb : Nat → Prop) (w : World) (hs : Sl w Pb A c bs) (hE : Most w) (hl : bs.length ≤ 9223372036854775807) :
    Calls Tryz.prog 13 #[.slice A bs.length c] w fun y w' => ∃ vi vc, y = .returned (.tuple #[.agg #[vi, .string ⟨(pdecode bs).1.author.toArray⟩, .string ⟨(pdecode bs).1.note.toArray⟩, vc], .int .i64 ((pdecode bs).2 : Nat)]) ∧
      OwT w' w.heap.size tI vi (pdecode bs).1.ids ∧ OwC w' w.heap.size vc (pdecode bs).1.chs ∧ Below w.heap.size w w' := by
  obtain ⟨R, hR⟩ : ∃ R, R = w.heap.size := ⟨_, rfl⟩
  obtain ⟨w1, hw1⟩ : ∃ w1, w1 = w.alloc (.cells #[.slice none 0 0, .string ⟨#[]⟩, .string ⟨#[]⟩, .slice none 0 0] tP) := ⟨_, rfl⟩
  have r1 : Row w1 R tP (z4 (.slice none 0 0) [] [] (.slice none 0 0)) := by rw [hw1, hR]; exact Row.fresh w _ _
  have hb1 : Below w.heap.size w w1 := by rw [hw1]; exact (Below.refl _ w).alloc (Nat.le_refl _) _
  have HR := hide r1
  have HB := hide hb1
  have HF := hide (show ∀ (wz : World) (i : Nat) (u : Value), Below w.heap.size w wz → Below w.heap.size w (wz.setCell ⟨R, i, none⟩ u) from fun wz i u h => below_put h (by rw [hR]; exact Nat.le_refl _) u)
  have W1 := hide hw1
  have HRw := hide hR
  have HRlt := hide (show R < w1.heap.size from r1.lt)
  have hs1 := hide ((hs.imp (Q := fun _ => True) fun _ _ _ => trivial).move (w' := w1) fun b _ hlt => hb1.block b hlt)
  have HE := hide hE
  by_cases hlong : 131072 < bs.length
  · have HD := hide (show pdecode bs = (noPch, 4) by unfold pdecode; rw [if_pos hlong])
    obtain ⟨nb, hnb⟩ : ∃ z, z = bs.length := ⟨_, rfl⟩
    rw [← hnb] at hlong ⊢
    have d1 : decide (131072 < (nb : Int)) = true := decide_eq_true (by omega)
    have d2 : decide (131072 < nb) = true := decide_eq_true hlong
    generalize pdecode bs = D at *
    have s0 := HR.out.cell 0
    have s1 := HR.out.cell 1
    have s2 := HR.out.cell 2
    have s3 := HR.out.cell 3
    have f0 := HR.out.free 0
    have f1 := HR.out.free 1
    have f2 := HR.out.free 2
    have f3 := HR.out.free 3
    simp only [z4, List.getElem?_cons_zero, List.getElem?_cons_succ] at s0 s1 s2 s3
    clear hs hE hl hR hw1 r1 hb1 hs1 hlong hnb
    go_enter Tryz.func13, Tryz.ntmps13
    go_wp2_with (first | rw [← W1.out, ← HRw.out] | fail)
    have hrf := (((HR.out.put 0 (.slice none 0 0)).put 1 (.string ⟨#[]⟩)).put 2 (.string ⟨#[]⟩)).put 3 (.slice none 0 0)
    exact bodyPost_ret (results_cr rfl _ _ R tP #[.slice none 0 0, .string ⟨#[]⟩, .string ⟨#[]⟩, .slice none 0 0] (0, 0) _ rfl hrf Tryz.underlying30 rfl sizePt) rfl ⟨_, _, by rw [HD.out]; rfl, by rw [HD.out]; exact OwT.nil _ _ _, by rw [HD.out]; exact OwC.nil _ _, HF.out _ _ _ (HF.out _ _ _ (HF.out _ _ _ (HF.out _ _ _ HB.out)))⟩
  obtain ⟨n0, b1, e1, h1⟩ : ∃ n0 b1 e1, stepNum bs 0 = (n0, b1, e1) := ⟨_, _, _, rfl⟩
  obtain ⟨n, hn⟩ : ∃ n, n = if 16 < n0 then 0 else n0 := ⟨_, rfl⟩
  obtain ⟨ids, b2, e2, h2⟩ : ∃ ids b2 e2, rdIds n b1 e1 = (ids, b2, e2) := ⟨_, _, _, rfl⟩
  obtain ⟨a, b3, e3, h3⟩ : ∃ a b3 e3, stepText b2 e2 100 = (a, b3, e3) := ⟨_, _, _, rfl⟩
  obtain ⟨o, b4, e4, h4⟩ : ∃ o b4 e4, stepText b3 e3 1000 = (o, b4, e4) := ⟨_, _, _, rfl⟩
  obtain ⟨m0, b5, e5, h5⟩ : ∃ m0 b5 e5, stepNum b4 e4 = (m0, b5, e5) := ⟨_, _, _, rfl⟩
  obtain ⟨m, hm⟩ : ∃ m, m = if 100 < m0 then 0 else m0 := ⟨_, rfl⟩
  obtain ⟨chs, o6, b6, e6, h6⟩ : ∃ chs o6 b6 e6, rdChs m b5 e5 = ((chs, o6), b6, e6) := ⟨_, _, _, _, rfl⟩
  have hd := pdecode_rd h1 hn h2 h3 h4 h5 hm h6 hlong
  -- what was read is short
  have k1 : b1.length ≤ bs.length := by have := num_short bs 0; rw [h1] at this; exact this
  have k2 := ids_short n b1 e1
  rw [h2] at k2
  have k3 := text_short b2 e2 100
  rw [h3] at k3
  have k4 := text_short b3 e3 1000
  rw [h4] at k4
  have k5 : b5.length ≤ b4.length := by have := num_short b4 e4; rw [h5] at this; exact this
  have k6 := chs_short m b5 e5
  rw [h6] at k6
  simp only at k2 k3 k4 k6
  have hbl : bs.length ≤ 131072 := by omega
  have Hli := hide (show (∀ q ∈ ids, q.length ≤ 131072) ∧ (∀ c ∈ chs, c.path.length ≤ 131072 ∧ c.text.length ≤ 131072) ∧ a.length ≤ 131072 ∧ o.length ≤ 131072 ∧ ids.length ≤ 16 ∧ chs.length ≤ 100 from
    ⟨fun q hq => by have := k2.1 q hq; omega, fun c hc => by have := k6 c hc; omega, by omega, by omega, by have := ids_len n b1 e1; rw [h2] at this; simp only at this; rw [this, hn]; split <;> omega, by have := chs_len m b5 e5; rw [h6] at this; simp only at this; rw [this, hm]; split <;> omega⟩)
  have HO := hide (popen_any bs A c _ w1 hs1.out (by omega))
  have HPt := hide (fun (wz : World) (S : Nat → Prop) (G g : Nat) (hS : ∀ b, S b → b < wz.heap.size) (hq : RdQ wz S G g bs 0 false false) => rpatch_any hS hq h1 hn h2 h3 h4 h5 hm h6)
  obtain ⟨nb, hnb⟩ : ∃ z, z = bs.length := ⟨_, rfl⟩
  rw [← hnb] at HO hbl ⊢
  have d1 : decide (131072 < (nb : Int)) = false := decide_eq_false (by omega)
  have d2 : decide (131072 < nb) = false := decide_eq_false (by omega)
  simp only [Bool.false_or] at HPt
  generalize hlg : (decide (16 < n0) || decide (100 < m0)) = lg at *
  generalize pdecode bs = D at *
  have HD0 := hide hd
  clear hs hE hl hR hw1 r1 hb1 hs1 hlong h1 hn h2 h3 h4 h5 hm h6 hd k1 k2 k3 k4 k5 k6 hbl hnb hlg
  go_enter Tryz.func13, Tryz.ntmps13
  go_wp2_with (first | rw [← W1.out, ← HRw.out] | fail)
  refine HO.out.mono ?_
  rintro y w2 ⟨G, g, rfl, hq2, hG2, hb2⟩
  have Hq2 := hide hq2
  have HG := hide hG2
  have HB2 := hide (HB.out.trans (hb2.mono HB.out.size))
  have HR2 := hide (HR.out.below hb2 HRlt.out)
  have HSg := hide (show w1.heap.size ≤ g from hq2.rd.at_.1)
  clear hq2 hG2 hb2 HB HR HO d1 d2
  go_wp2_with fail
  refine (HPt.out w2 _ G g (fun b hb => Nat.lt_trans hb.2 Hq2.out.row.lt) Hq2.out).mono ?_
  rintro y w3 ⟨vi, vc, rfl, hids3, hchs3, hq3, ho3⟩
  have Hs3 := hide (show w.heap.size ≤ w2.heap.size from HB2.out.size)
  have Hq3 := hide hq3
  have HB3 := hide (ho3.below HB2.out HB2.out.size fun k hk e => by have := HSg.out; have := HG.out; have := HB2.out.size; have := HRlt.out; have := HRw.out; rcases e with e | e <;> omega)
  have HR3 := hide (HR2.out.only ho3 fun e => by have := HSg.out; have := HG.out; have := HRlt.out; rcases e with e | e <;> omega)
  have HI3 := hide hids3
  have HC3 := hide hchs3
  obtain ⟨Ai, ci, rfl, _⟩ := hids3.vs
  obtain ⟨Ac, cc, rfl, _⟩ := hchs3.fls
  obtain ⟨N, hN⟩ : ∃ n, n = ids.length := ⟨_, rfl⟩
  obtain ⟨M, hM⟩ : ∃ n, n = chs.length := ⟨_, rfl⟩
  rw [← hN] at HI3 ⊢
  rw [← hM] at HC3 ⊢
  have HN := hide hN
  have HMh := hide hM
  clear hN hM
  obtain ⟨P, hP⟩ : ∃ P, P = w3.heap.size := ⟨_, rfl⟩
  have hrow := Row.fresh w3 tP #[.slice Ai N ci, .string ⟨a.toArray⟩, .string ⟨o.toArray⟩, .slice Ac M cc]
  have hb4 := (Below.refl w3.heap.size w3).alloc (Nat.le_refl _) (.cells #[.slice Ai N ci, .string ⟨a.toArray⟩, .string ⟨o.toArray⟩, .slice Ac M cc] tP)
  obtain ⟨w4, hw4⟩ : ∃ w4, w4 = w3.alloc (.cells #[.slice Ai N ci, .string ⟨a.toArray⟩, .string ⟨o.toArray⟩, .slice Ac M cc] tP) := ⟨_, rfl⟩
  rw [← hw4] at hrow hb4
  rw [← hP] at hrow
  have Hq4 := hide (Hq3.out.keep hb4)
  have HB4 := hide (HB3.out.trans (hb4.mono HB3.out.size))
  have HR4 := hide (HR3.out.below hb4 HR3.out.lt)
  have HI4 := hide (HI3.out.kept hb4)
  have HC4 := hide (HC3.out.keep hb4)
  have HP4 := hide hrow
  have HFt := hide (fault_any Hq4.out)
  have W4 := hide hw4
  have HPw := hide hP
  clear hids3 hchs3 hq3 ho3 HB2 HR2 Hq2 HPt hrow hb4 hw4 hP Hq3 HB3 HR3 HI3 HC3
  go_wp2_with (first | rw [← W4.out, ← HPw.out] | fail)
  refine HFt.out.mono ?_
  rintro y w5 ⟨rfl, hb5⟩
  have Hq5 := hide (Hq4.out.keep hb5)
  have HB := hide (HB4.out.trans (hb5.mono HB4.out.size))
  have HR := hide (HR4.out.below hb5 HR4.out.lt)
  have HI5 := hide (HI4.out.kept hb5)
  have HC5 := hide (HC4.out.keep hb5)
  have HP5 := hide (HP4.out.below hb5 HP4.out.lt)
  clear hb5 Hq4 HB4 HR4 HI4 HC4 HP4 HFt
  obtain ⟨x, hx⟩ : ∃ x, x = if lg = true then 4 else endOf b6 e6 := ⟨_, rfl⟩
  rw [← hx]
  have hd2 : D = if x ≠ 0 then (noPch, x) else if (o6 || !pright ⟨ids, a, o, chs⟩) = true then (noPch, 3) else (⟨ids, a, o, chs⟩, 0) := by
    rw [HD0.out, hx]
    cases lg with
    | true => rfl
    | false => rfl
  clear hx HD0
  by_cases hx0 : x = 0
  · subst hx0
    rw [if_neg (by decide)] at hd2
    have c2 : w5.drew.cell? ⟨G, 2, none⟩ = some (.bool o6) := Hq5.out.row.cell 2
    have p0 : w5.drew.cell? ⟨P, 0, none⟩ = some (.slice Ai N ci) := HP5.out.cell 0
    have p1 : w5.drew.cell? ⟨P, 1, none⟩ = some (.string ⟨a.toArray⟩) := HP5.out.cell 1
    have p2 : w5.drew.cell? ⟨P, 2, none⟩ = some (.string ⟨o.toArray⟩) := HP5.out.cell 2
    have p3 : w5.drew.cell? ⟨P, 3, none⟩ = some (.slice Ac M cc) := HP5.out.cell 3
    have HRt := hide (show Calls Tryz.prog 8 #[.agg #[.slice Ai N ci, .string ⟨a.toArray⟩, .string ⟨o.toArray⟩, .slice Ac M cc]] w5.drew fun y w' => y = .returned (.bool (pright ⟨ids, a, o, chs⟩)) ∧ Below w5.drew.heap.size w5.drew w' from by
      obtain ⟨A1, c1, e1, hv1⟩ := HI5.out.vs
      obtain ⟨A2, c2, e2, hv2⟩ := HC5.out.fls
      rw [← HN.out] at e1
      rw [← HMh.out] at e2
      cases e1
      cases e2
      have := pright_any ⟨ids, a, o, chs⟩ Ai Ac ci cc w5.drew ⟨⟨hv1.1, fun h => by obtain ⟨b, oo, h1, _, h2⟩ := hv1.2 h; exact ⟨b, oo, h1, trivial, h2⟩⟩, hv2, fun q hq => by have := Hli.out.1 q hq; omega, fun f hf => by have := Hli.out.2.1 f hf; omega, by have := Hli.out; simp only; omega, by have := Hli.out; simp only; omega, by have := Hli.out; simp only; omega, by have := Hli.out; simp only; omega⟩ (HE.out.keep (HB.out.drew))
      unfold PchV at this
      simp only [← HN.out, ← HMh.out] at this
      exact this)
    generalize hpr : pright ⟨ids, a, o, chs⟩ = pr at *
    have HDD := hide hd2
    clear hd2 hpr
    go_wp2
    refine Rg.wp_region_ord (fun w' => w'.cell? ⟨G, 2, none⟩ = some (.bool o6) ∧ w'.cell? ⟨P, 0, none⟩ = some (.slice Ai N ci) ∧ w'.cell? ⟨P, 1, none⟩ = some (.string ⟨a.toArray⟩) ∧ w'.cell? ⟨P, 2, none⟩ = some (.string ⟨o.toArray⟩) ∧ w'.cell? ⟨P, 3, none⟩ = some (.slice Ac M cc)) [(0, true), (1, true), (2, true), (3, true), (4, true), (5, false), (6, true), (7, false), (8, false)] (by kernel_rfl) (by kernel_rfl) ?_
    simp only [Rg.pick, List.map_cons, List.map_nil, List.getD_cons_zero, List.getD_cons_succ]
    iterate 5 (refine Rg.ord_quiet (v := ?_) rfl (fun w' hS => ?_) ⟨c2, p0, p1, p2, p3⟩ ?_; rotate_left; (obtain ⟨t0, t1, t2, t3, t4⟩ := hS; go_simp; with_reducible rfl); simp only [Act.put, List.setIfInBounds_toArray, List.set_cons_succ, List.set_cons_zero])
    refine Rg.ord_loud rfl (fun K hK => ?_)
    go_simp
    refine HRt.out.mono ?_
    rintro y w6 ⟨rfl, hb6⟩
    have c2' := agr c2 hb6
    have p0' := agr p0 hb6
    have p1' := agr p1 hb6
    have p2' := agr p2 hb6
    have p3' := agr p3 hb6
    have HB6 := hide (HB.out.drew.trans (hb6.mono HB.out.size))
    have HR6 := hide (Row.below (w := w5.drew) HR.out hb6 HR.out.lt)
    have HI6 : Hid (OwT w6 w2.heap.size tI (.slice Ai N ci) ids) := hide (OwT.kept (w := w5.drew) HI5.out.drew hb6)
    have HC6 : Hid (OwC w6 w2.heap.size (.slice Ac M cc) chs) := hide (OwC.keep (w := w5.drew) HC5.out.drew hb6)
    refine hK _ _ (fun _ => ⟨c2', p0', p1', p2', p3'⟩) ?_
    clear hK K hb6 c2 p0 p1 p2 p3 HB HR HI5 HC5 HRt Hq5 HP5
    iterate 1 (refine Rg.ord_quiet (v := ?_) rfl (fun w' hS => ?_) ⟨c2', p0', p1', p2', p3'⟩ ?_; rotate_left; (obtain ⟨t0, t1, t2, t3, t4⟩ := hS; go_simp; with_reducible rfl); simp only [Act.put, List.setIfInBounds_toArray, List.set_cons_succ, List.set_cons_zero])
    refine Rg.ord_loud rfl (fun K hK => ?_)
    go_simp
    have hb7 : Below w6.heap.size w6 (w6.alloc (.cells #[.bool o6, .bool (!pr)] tB)) := (Below.refl _ w6).alloc (Nat.le_refl _) _
    refine hK _ _ (fun _ => ⟨agr c2' hb7, agr p0' hb7, agr p1' hb7, agr p2' hb7, agr p3' hb7⟩) ?_
    clear hK K
    refine Rg.ord_loud rfl (fun K hK => ?_)
    go_simp
    refine (wrong2_any _ _ w6).mono ?_
    rintro y w7 ⟨rfl, hb8⟩
    have HB := hide (HB6.out.trans (hb8.mono HB6.out.size))
    have HR := hide (HR6.out.below hb8 HR6.out.lt)
    have HI7 := hide (HI6.out.kept hb8)
    have HC7 := hide (HC6.out.keep hb8)
    have p0 := agr p0' hb8
    have p1 := agr p1' hb8
    have p2 := agr p2' hb8
    have p3 := agr p3' hb8
    refine hK _ _ (fun _ => ⟨agr c2' hb8, p0, p1, p2, p3⟩) ?_
    clear hK K hb7 hb8 c2' p0' p1' p2' p3' HB6 HR6 HI6 HC6
    refine Rg.ord_nil ?_
    have s0 := HR.out.cell 0
    have s1 := HR.out.cell 1
    have s2 := HR.out.cell 2
    have s3 := HR.out.cell 3
    have f0 := HR.out.free 0
    have f1 := HR.out.free 1
    have f2 := HR.out.free 2
    have f3 := HR.out.free 3
    simp only [z4, List.getElem?_cons_zero, List.getElem?_cons_succ] at s0 s1 s2 s3
    cases hz : (o6 || !pr) with
    | true =>
      have HD := hide (show D = (noPch, 3) by rw [HDD.out, hz]; rfl)
      clear hz HDD p0 p1 p2 p3
      go_wp2
      have hrf := (((HR.out.put 0 (.slice none 0 0)).put 1 (.string ⟨#[]⟩)).put 2 (.string ⟨#[]⟩)).put 3 (.slice none 0 0)
      exact bodyPost_ret (results_cr rfl _ _ R tP #[.slice none 0 0, .string ⟨#[]⟩, .string ⟨#[]⟩, .slice none 0 0] (0, 0) _ rfl hrf Tryz.underlying30 rfl sizePt) rfl ⟨_, _, by rw [HD.out]; rfl, by rw [HD.out]; exact OwT.nil _ _ _, by rw [HD.out]; exact OwC.nil _ _, HF.out _ _ _ (HF.out _ _ _ (HF.out _ _ _ (HF.out _ _ _ HB.out)))⟩
    | false =>
      have HD := hide (show D = (⟨ids, a, o, chs⟩, 0) by rw [HDD.out, hz]; rfl)
      clear hz HDD
      go_wp2
      have hrf := (((HR.out.put 0 (.slice Ai N ci)).put 1 (.string ⟨a.toArray⟩)).put 2 (.string ⟨o.toArray⟩)).put 3 (.slice Ac M cc)
      have hfin : ∀ (wz : World) (i : Nat) (u : Value), OwT wz w2.heap.size tI (.slice Ai N ci) ids ∧ OwC wz w2.heap.size (.slice Ac M cc) chs ∧ (∃ cs, Row wz R tP cs) →
          OwT (wz.setCell ⟨R, i, none⟩ u) w2.heap.size tI (.slice Ai N ci) ids ∧ OwC (wz.setCell ⟨R, i, none⟩ u) w2.heap.size (.slice Ac M cc) chs ∧ (∃ cs, Row (wz.setCell ⟨R, i, none⟩ u) R tP cs) := by
        rintro wz i u ⟨k1, k2, cs, k5⟩
        exact ⟨rw_put k1 (rw_ne k5 (by decide) k1) _, rw_put k2 (rw_ne k5 (by decide) k2) _, _, k5.put i u⟩
      have hf9 := hfin _ 3 (.slice Ac M cc) (hfin _ 2 (.string ⟨o.toArray⟩) (hfin _ 1 (.string ⟨a.toArray⟩) (hfin _ 0 (.slice Ai N ci) ⟨HI7.out, HC7.out, _, HR.out⟩)))
      exact bodyPost_ret (results_cr rfl _ _ R tP #[.slice Ai N ci, .string ⟨a.toArray⟩, .string ⟨o.toArray⟩, .slice Ac M cc] (0, 0) _ rfl hrf Tryz.underlying30 rfl sizePt) rfl ⟨_, _, by rw [HD.out]; rfl, by rw [HD.out]; exact rw_base hf9.1 Hs3.out, by rw [HD.out]; exact rw_base hf9.2.1 Hs3.out, HF.out _ _ _ (HF.out _ _ _ (HF.out _ _ _ (HF.out _ _ _ HB.out)))⟩
  · rw [if_pos hx0] at hd2
    have HD := hide hd2
    have hne : ((x : Int) != 0) = true := by rw [bne_iff_ne]; omega
    have s0 := HR.out.cell 0
    have s1 := HR.out.cell 1
    have s2 := HR.out.cell 2
    have s3 := HR.out.cell 3
    have f0 := HR.out.free 0
    have f1 := HR.out.free 1
    have f2 := HR.out.free 2
    have f3 := HR.out.free 3
    simp only [z4, List.getElem?_cons_zero, List.getElem?_cons_succ] at s0 s1 s2 s3
    clear hd2 hx0
    go_wp2
    have hrf := (((HR.out.put 0 (.slice none 0 0)).put 1 (.string ⟨#[]⟩)).put 2 (.string ⟨#[]⟩)).put 3 (.slice none 0 0)
    exact bodyPost_ret (results_cr rfl _ _ R tP #[.slice none 0 0, .string ⟨#[]⟩, .string ⟨#[]⟩, .slice none 0 0] (0, 0) _ rfl hrf Tryz.underlying30 rfl sizePt) rfl ⟨_, _, by rw [HD.out]; rfl, by rw [HD.out]; exact OwT.nil _ _ _, by rw [HD.out]; exact OwC.nil _ _, HF.out _ _ _ (HF.out _ _ _ (HF.out _ _ _ (HF.out _ _ _ HB.out)))⟩
end Go.Proofs.YtahcokfoifdlmaaGreatDoor.Tr
