/-
  What flow does to the graph in memory, step by step.
-/
import Derived.Test.YtlfncnnfpniigaaXI
import Derived.Test.YtlfncnnfpniigaaXK
namespace Go.Proofs.Ytlfncnnfpniigaa.Dq
open Go Go.RowKit Kt Kg Lw Tr

section
variable {w w' : World} {p : Pc} {D : List Nd} {sl : Bs → Option Addr × Nat} {su lev : Bs → Nat} {bh : Bs → List Bs} {bv : Bs → Option Value}
theorem Gm.five_lt (h : Gm w p D sl su lev bh bv) {k : Nat} (hk : p.five k) : k < w.heap.size := h.lt k (.inl hk)
/-- how much is in for sure is told anew -/
theorem Gm.sure (h : Gm w p D sl su lev bh bv) {x : Bs} {j : Nat} (hx : waits D x = true) {o : Obj} (hm : Mp (w.putObj p.c o) p.c (upd (fun k => if waits D k then some (ndV (sl k) (psL D k) (su k)) else none) x (some (ndV (sl x) (psL D x) j)))) :
    Gm (w.putObj p.c o) p D sl (upd su x j) lev bh bv := by
  have hO := h.ok
  have keep : ∀ k, k ≠ p.c → (w.putObj p.c o).heap[k]? = w.heap[k]? := fun k hk => World.putObj_heap_other hk
  have hsz : (w.putObj p.c o).heap.size = w.heap.size := by simp [World.putObj]
  refine ⟨hO, (keep _ hO.gc).trans h.row, h.mN.move (keep _ hO.ac), h.mH.move (keep _ hO.bc), hm.congr fun k => ?_, h.mB.move (keep _ hO.cd.symm), fun k hk => (h.sls k hk).move fun b hb _ => keep b fun e => ?_, fun k => (h.rows k).imp id fun ⟨v, h1, h2, h3⟩ => ⟨v, h1, OwT.moved h2 fun g hg => keep g fun e => ?_, h3⟩, fun k hk => by rw [hsz]; exact h.lt k hk⟩
  · by_cases e : k = x
    · subst e; rw [upd_same, hx, if_pos rfl, upd_same]
    · rw [upd_ne _ _ e, upd_ne _ _ e]
  · exact hO.sp b hb (.inr (.inr (.inr (.inl e))))
  · exact (hO.sb k g (h3 g hg)).1 (.inr (.inr (.inr (.inl e))))
/-- the pieces, with another row for one id -/
def Pc.row (p : Pc) (x : Bs) (R : Nat → Prop) : Pc := ⟨p.g, p.a, p.b, p.c, p.d, p.Sp, fun y k => if y = x then R k else p.Sb y k⟩
theorem Pc.row_ok {p : Pc} (h : p.Ok) (x : Bs) (R : Nat → Prop) (hR : ∀ k, R k → ¬ p.five k ∧ ¬ p.Sp k ∧ ∀ y, y ≠ x → ¬ p.Sb y k) : (p.row x R).Ok := by
  refine ⟨h.ga, h.gb, h.gc, h.gd, h.ab, h.ac, h.ad, h.bc, h.bd, h.cd, h.sp, fun y k hk => ?_, fun y z k h1 h2 => ?_⟩
  · by_cases e : y = x
    · have hk' : R k := by simpa [Pc.row, e] using hk
      exact ⟨(hR k hk').1, (hR k hk').2.1⟩
    · have hk' : p.Sb y k := by simpa [Pc.row, e] using hk
      exact h.sb y k hk'
  · by_cases e : y = x
    · have h1' : R k := by simpa [Pc.row, e] using h1
      by_cases e2 : z = x
      · rw [e, e2]
      · have h2' : p.Sb z k := by simpa [Pc.row, e2] using h2
        exact absurd h2' ((hR k h1').2.2 z e2)
    · have h1' : p.Sb y k := by simpa [Pc.row, e] using h1
      by_cases e2 : z = x
      · have h2' : R k := by simpa [Pc.row, e2] using h2
        exact absurd h1' ((hR k h2').2.2 y e)
      · have h2' : p.Sb z k := by simpa [Pc.row, e2] using h2
        exact h.one y z k h1' h2'
theorem Pc.row_S {p : Pc} {x : Bs} {R : Nat → Prop} {k : Nat} (h : (p.row x R).S k) : p.S k ∨ R k := by
  rcases h with h | h | ⟨y, h⟩
  · exact .inl (.inl h)
  · exact .inl (.inr (.inl h))
  · by_cases e : y = x
    · exact .inr (by simpa [Pc.row, e] using h)
    · exact .inl (.inr (.inr ⟨y, by simpa [Pc.row, e] using h⟩))
/-- one's row has turned: who stands behind it -/
theorem Gm.behind (h : Gm w p D sl su lev bh bv) {x : Bs} {l : List Bs} {u : Option Value} {R : Nat → Prop} (hoth : ∀ k, p.S k → k ≠ p.d → ¬ p.Sb x k → w'.heap[k]? = w.heap[k]?) (hsz : w.heap.size ≤ w'.heap.size)
    (hm : Mp w' p.d (upd bv x u)) (hl : (l = [] ∧ u = none) ∨ ∃ v, u = some v ∧ OwT w' 0 tId v l ∧ ∀ b, v.ownBlock = some b → R b)
    (hR : ∀ k, R k → k < w'.heap.size ∧ ¬ p.five k ∧ ¬ p.Sp k ∧ ∀ y, y ≠ x → ¬ p.Sb y k) : Gm w' (p.row x R) D sl su lev (upd bh x l) (upd bv x u) := by
  have hO := h.ok
  have nb : ∀ k, p.five k → ¬ p.Sb x k := fun k hk hs => (hO.sb x k hs).1 hk
  refine ⟨Pc.row_ok hO x R fun k hk => (hR k hk).2, (hoth _ (.inl (.inl rfl)) hO.gd (nb _ (.inl rfl))).trans h.row, h.mN.move (hoth _ (.inl (.inr (.inl rfl))) hO.ad (nb _ (.inr (.inl rfl)))),
    h.mH.move (hoth _ (.inl (.inr (.inr (.inl rfl)))) hO.bd (nb _ (.inr (.inr (.inl rfl))))), h.mW.move (hoth _ (.inl (.inr (.inr (.inr (.inl rfl))))) hO.cd (nb _ (.inr (.inr (.inr (.inl rfl)))))), hm,
    fun k hk => (h.sls k hk).move fun b hb _ => hoth b (.inr (.inl hb)) (fun e => hO.sp b hb (.inr (.inr (.inr (.inr e))))) (fun hs => (hO.sb x b hs).2 hb), fun k => ?_, fun k hk => ?_⟩
  · by_cases e : k = x
    · subst e
      rw [upd_same, upd_same]
      rcases hl with ⟨rfl, rfl⟩ | ⟨v, rfl, h1, h2⟩
      · exact .inl ⟨rfl, rfl⟩
      · exact .inr ⟨v, rfl, h1, fun b hb => by simpa [Pc.row] using h2 b hb⟩
    · rw [upd_ne _ _ e, upd_ne _ _ e]
      refine (h.rows k).imp id fun ⟨v, h1, h2, h3⟩ => ⟨v, h1, OwT.moved h2 fun g hg => hoth g (.inr (.inr ⟨k, h3 g hg⟩)) (fun e2 => (hO.sb k g (h3 g hg)).1 (.inr (.inr (.inr (.inr e2))))) (fun hs => e (hO.one k x g (h3 g hg) hs)), fun b hb => by simpa [Pc.row, e] using h3 b hb⟩
  · rcases Pc.row_S hk with hk | hk
    · exact Nat.lt_of_lt_of_le (h.lt k hk) hsz
    · exact (hR k hk).1
theorem Gm.lev_ext (h : Gm w p D sl su lev bh bv) : p.Ok := h.ok
end
theorem vs_cutI {w : World} {P : Nat → Prop} {A : Option Addr} {c : Nat} {l : List Bs} (h : Vs w P A c (texts l)) {i : Nat} (hi : i ≤ l.length) :
    Vs w P (if c = i then A else A.map (·.add i)) (c - i) (texts (l.drop i)) := by
  have h1 := h.1
  rw [texts_len] at h1
  refine ⟨by rw [texts_len, List.length_drop]; omega, fun hn => ?_⟩
  rw [texts_len, List.length_drop] at hn
  obtain ⟨b, o, rfl, hp, hc⟩ := h.2 (by rw [texts_len]; omega)
  rw [if_neg (by omega)]
  refine ⟨b, o + i, by simp [Addr.add_mid], hp, fun k v hk => ?_⟩
  have hk2 : (texts l)[i + k]? = some v := by
    rw [← hk]
    simp [texts, List.getElem?_drop]
  have := hc _ _ hk2
  rwa [show o + (i + k) = o + i + k by omega] at this
theorem run_cutI (w : World) (A : Option Addr) (n c i : Nat) (hi : i ≤ n) :
    (Instr.slice 31 (.slice A n c) (some (.int .i64 (i : Int))) none none).run Try.prog w = .ok (.slice (if c = i then A else A.map (·.add i)) (n - i) (c - i)) w := by
  have hu := run_underlying Try.underlying31
  cases A with
  | none => go_simp
  | some ad => go_simp
theorem drop_cons {l : List Bs} {k : Nat} {x : Bs} (h : l[k]? = some x) : l.drop k = x :: l.drop (k + 1) := by
  obtain ⟨h1, h2⟩ := List.getElem?_eq_some_iff.1 h
  rw [List.drop_eq_getElem_cons h1, h2]
/-- all that flow holds in memory, but for who is looked at -/
structure Fl (w0 : World) (p0 : Pc) (w : World) (p : Pc) (D : List Nd) (sl : Bs → Option Addr × Nat) (su lev : Bs → Nat) (bh : Bs → List Bs) (bv : Bs → Option Value) (Sq : Nat → Prop) (q : Nat) (nx : List Bs) (vc : Value) (came : List Bs) : Prop where
  gm : Gm w p D sl su lev bh bv
  hp : HpIn w Sq q nx
  hh : Hp nx nx.length
  cm : OwT w w0.heap.size tId vc came
  d1 : ∀ k, Sq k → ¬ p.S k
  d2 : ∀ k, vc.ownBlock = some k → ¬ p.S k ∧ ¬ Sq k
  new : ∀ k, Sq k → w0.heap.size ≤ k
  pS : ∀ k, p.S k → p0.S k ∨ w0.heap.size ≤ k
  oth : Oth p0.S w0 w
  g0 : p.g = p0.g
  lvl : Lv D lev
/-- who is looked at -/
structure Hu (w : World) (p : Pc) (Sq : Nat → Prop) (vc : Value) (A : Option Addr) (c : Nat) (hg : List Bs) (P : Nat → Prop) : Prop where
  vs : Vs w P A c (texts hg)
  off : ∀ k, P k → k < w.heap.size ∧ ¬ p.S k ∧ ¬ Sq k ∧ vc.ownBlock ≠ some k
section
variable {w0 w w' : World} {p0 p : Pc} {D : List Nd} {sl : Bs → Option Addr × Nat} {su lev : Bs → Nat} {bh : Bs → List Bs} {bv : Bs → Option Value} {Sq : Nat → Prop} {q : Nat} {nx : List Bs} {vc : Value} {came : List Bs}
theorem OwT.lt {B : Nat} {v : Value} {l : List Bs} (h : OwT w B tId v l) {k : Nat} (hk : v.ownBlock = some k) : B ≤ k ∧ k < w.heap.size := World.ownsRow.lt h k hk
/-- new blocks alone -/
theorem Fl.below (h : Fl w0 p0 w p D sl su lev bh bv Sq q nx vc came) (hb : Below w.heap.size w w') : Fl w0 p0 w' p D sl su lev bh bv Sq q nx vc came :=
  ⟨h.gm.below hb, h.hp.move (fun k hk => hb.block k (h.hp.lt k hk)) hb.size, h.hh, h.cm.kept hb, h.d1, h.d2, h.new, h.pS, Oth.trans h.oth (Oth.of_below p0.S hb) fun _ _ z => z, h.g0, h.lvl⟩
theorem Hu.below {A : Option Addr} {c : Nat} {hg : List Bs} {P : Nat → Prop} (h : Hu w p Sq vc A c hg P) (hb : Below w.heap.size w w') : Hu w' p Sq vc A c hg P :=
  ⟨h.vs.move fun b hp _ => hb.block b (h.off b hp).1, fun k hk => ⟨Nat.lt_of_lt_of_le (h.off k hk).1 hb.size, (h.off k hk).2⟩⟩
/-- only the graph's blocks have turned, and new ones -/
theorem Fl.graph (h : Fl w0 p0 w p D sl su lev bh bv Sq q nx vc came) {p' : Pc} {D' : List Nd} {su' lev' : Bs → Nat} {bh' : Bs → List Bs} {bv' : Bs → Option Value} (ho : Oth p.S w w') (hg : Gm w' p' D' sl su' lev' bh' bv') (hp : ∀ k, p'.S k → p.S k ∨ w.heap.size ≤ k) (hgg : p'.g = p.g) (hl : Lv D' lev') :
    Fl w0 p0 w' p' D' sl su' lev' bh' bv' Sq q nx vc came := by
  have hs1 : ∀ k, Sq k → w'.heap[k]? = w.heap[k]? := fun k hk => ho.block k (h.hp.lt k hk) (h.d1 k hk)
  have hs2 : ∀ k, vc.ownBlock = some k → w'.heap[k]? = w.heap[k]? := fun k hk => ho.block k (OwT.lt h.cm hk).2 (h.d2 k hk).1
  refine ⟨hg, h.hp.move hs1 ho.size, h.hh, OwT.moved h.cm hs2, fun k hk hs => ?_, fun k hk => ⟨fun hs => ?_, (h.d2 k hk).2⟩, h.new, fun k hk => ?_, Oth.two h.oth ho h.pS, hgg.trans h.g0, hl⟩
  · rcases hp k hs with z | z
    · exact h.d1 k hk z
    · have := h.hp.lt k hk; omega
  · rcases hp k hs with z | z
    · exact (h.d2 k hk).1 z
    · have := (OwT.lt h.cm hk).2; omega
  · rcases hp k hk with z | z
    · exact h.pS k z
    · exact .inr (Nat.le_trans h.oth.size z)
theorem Hu.graph {A : Option Addr} {c : Nat} {hg : List Bs} {P : Nat → Prop} (h : Hu w p Sq vc A c hg P) {p' : Pc} (ho : Oth p.S w w') (hp : ∀ k, p'.S k → p.S k ∨ w.heap.size ≤ k) : Hu w' p' Sq vc A c hg P := by
  refine ⟨h.vs.move fun b hb _ => ho.block b (h.off b hb).1 (h.off b hb).2.1, fun k hk => ⟨Nat.lt_of_lt_of_le (h.off k hk).1 ho.size, fun hs => ?_, (h.off k hk).2.2⟩⟩
  rcases hp k hs with z | z
  · exact (h.off k hk).2.1 z
  · have := (h.off k hk).1; omega
/-- only the heap's blocks have turned, and new ones -/
theorem Fl.heap (h : Fl w0 p0 w p D sl su lev bh bv Sq q nx vc came) {Sq' : Nat → Prop} {nx' : List Bs} (hp : HpIn w' Sq' q nx') (hh : Hp nx' nx'.length) (ho : Oth Sq w w') (hS : ∀ k, Sq' k → Sq k ∨ w.heap.size ≤ k) :
    Fl w0 p0 w' p D sl su lev bh bv Sq' q nx' vc came := by
  have hs1 : ∀ k, p.S k → w'.heap[k]? = w.heap[k]? := fun k hk => ho.block k (h.gm.lt k hk) fun hs => h.d1 k hs hk
  have hs2 : ∀ k, vc.ownBlock = some k → w'.heap[k]? = w.heap[k]? := fun k hk => ho.block k (OwT.lt h.cm hk).2 (h.d2 k hk).2
  refine ⟨h.gm.move hs1 ho.size, hp, hh, OwT.moved h.cm hs2, fun k hk hs => ?_, fun k hk => ⟨(h.d2 k hk).1, fun hs => ?_⟩, fun k hk => ?_, h.pS, ?_, h.g0, h.lvl⟩
  · rcases hS k hk with z | z
    · exact h.d1 k z hs
    · have := h.gm.lt k hs; omega
  · rcases hS k hs with z | z
    · exact (h.d2 k hk).2 z
    · have := (OwT.lt h.cm hk).2; omega
  · rcases hS k hk with z | z
    · exact h.new k z
    · exact Nat.le_trans h.oth.size z
  · exact ⟨ho.os.trans h.oth.os, ho.tape.trans h.oth.tape, ho.output.trans h.oth.output, Nat.le_trans h.oth.size ho.size, fun k hk hn => (ho.block k (Nat.lt_of_lt_of_le hk h.oth.size) fun hs => by have := h.new k hs; omega).trans (h.oth.block k hk hn)⟩
theorem Hu.heap {A : Option Addr} {c : Nat} {hg : List Bs} {P : Nat → Prop} (h : Hu w p Sq vc A c hg P) {Sq' : Nat → Prop} (ho : Oth Sq w w') (hS : ∀ k, Sq' k → Sq k ∨ w.heap.size ≤ k) : Hu w' p Sq' vc A c hg P := by
  refine ⟨h.vs.move fun b hb _ => ho.block b (h.off b hb).1 (h.off b hb).2.2.1, fun k hk => ⟨Nat.lt_of_lt_of_le (h.off k hk).1 ho.size, (h.off k hk).2.1, fun hs => ?_, (h.off k hk).2.2.2⟩⟩
  rcases hS k hs with z | z
  · exact (h.off k hk).2.2.1 z
  · have := (h.off k hk).1; omega
/-- only the row of those that came has turned, and new blocks -/
theorem Fl.told (h : Fl w0 p0 w p D sl su lev bh bv Sq q nx vc came) {vc' : Value} {came' : List Bs} (hc : OwT w' w0.heap.size tId vc' came') (hg : w.grownBy w' vc.ownBlock) (hv : ∀ k, vc'.ownBlock = some k → vc.ownBlock = some k ∨ w.heap.size ≤ k) :
    Fl w0 p0 w' p D sl su lev bh bv Sq q nx vc' came' := by
  have hs1 : ∀ k, p.S k → w'.heap[k]? = w.heap[k]? := fun k hk => hg.block k (h.gm.lt k hk) fun e => (h.d2 k e.symm).1 hk
  have hs2 : ∀ k, Sq k → w'.heap[k]? = w.heap[k]? := fun k hk => hg.block k (h.hp.lt k hk) fun e => (h.d2 k e.symm).2 hk
  refine ⟨h.gm.move hs1 hg.size, h.hp.move hs2 hg.size, h.hh, hc, h.d1, fun k hk => ⟨fun hs => ?_, fun hs => ?_⟩, h.new, h.pS, ?_, h.g0, h.lvl⟩
  · rcases hv k hk with z | z
    · exact (h.d2 k z).1 hs
    · have := h.gm.lt k hs; omega
  · rcases hv k hk with z | z
    · exact (h.d2 k z).2 hs
    · have := h.hp.lt k hs; omega
  · exact ⟨hg.os.trans h.oth.os, hg.tape.trans h.oth.tape, hg.output.trans h.oth.output, Nat.le_trans h.oth.size hg.size, fun k hk hn => (hg.block k (Nat.lt_of_lt_of_le hk h.oth.size) fun e => by have := (OwT.lt h.cm e.symm).1; omega).trans (h.oth.block k hk hn)⟩
end
end Go.Proofs.Ytlfncnnfpniigaa.Dq
