/-
  A region that draws its order, walked in the text's order: what only reads, under a condition S on the world, may come whenever it likes; S is shown anew behind each operation that writes, but behind one that waits for all others.
-/
import Derived.Test.YtghnieddokhagaaKit
import Derived.OrdersHeld
import Derived.Tactics
import Derived.Deep.MidRow
import Derived.Deep.RegionHeld3
import Derived.OrdersIn
namespace Go.Proofs.Ytghnieddokhagaa.Rg
open Go

section
variable {P : Program} {ops : Array Oper} {Q : Exit → Act → World → Prop} {S : World → Prop}

/-- does operation j wait for k? -/
def waits (ops : Array Oper) (j k : Nat) : Bool := ((ops[j]?).map fun o => o.after.any fun e => Region.binds .any e && e.on == k).getD false
/-- does operation j wait for all others, or for one that does? -/
def sink (ops : Array Oper) (j : Nat) : Bool :=
  (List.range ops.size).all fun k => k == j || waits ops j k || (List.range ops.size).any fun i => waits ops j i && waits ops i k
/-- is what the listed ones wait for listed too? -/
def closed (ops : Array Oper) (listed : Array Bool) : Bool := (List.range ops.size).all fun j => !listed.getD j false || (List.range ops.size).all fun k => !waits ops j k || listed.getD k false
def Closed (ops : Array Oper) (listed : Array Bool) : Prop := ∀ j k, waits ops j k = true → listed.getD j false = true → listed.getD k false = true
theorem waits_spec {j k : Nat} {oj : Oper} (hj : ops[j]? = some oj) (h : waits ops j k = true) : ∃ e ∈ oj.after, Region.binds .any e = true ∧ e.on = k := by
  simp only [waits, hj, Option.map_some, Option.getD_some] at h
  obtain ⟨e, he, hb⟩ := Array.any_eq_true'.1 h
  simp only [Bool.and_eq_true, beq_iff_eq] at hb
  exact ⟨e, he, hb.1, hb.2⟩
theorem waits_lt {j k : Nat} (h : waits ops j k = true) : j < ops.size := by
  rcases Nat.lt_or_ge j ops.size with h' | h'
  · exact h'
  · simp [waits, Array.getElem?_eq_none h'] at h
theorem closed_spec {listed : Array Bool} (h : closed ops listed = true) (hk : ∀ j k, waits ops j k = true → k < ops.size) : Closed ops listed := by
  intro j k hw hl
  have h1 := List.all_eq_true.1 h j (List.mem_range.2 (waits_lt hw))
  simp only [hl, Bool.not_true, Bool.false_or] at h1
  have h2 := List.all_eq_true.1 h1 k (List.mem_range.2 (hk j k hw))
  simpa [hw] using h2
theorem closed_set {listed : Array Bool} {j : Nat} (h : Closed ops listed) (hj : j ∈ Region.ready .any ops listed) : Closed ops (listed.setIfInBounds j true) := by
  intro a b hw hl
  obtain ⟨_, oj, hoj, hall⟩ := mem_ready.1 hj
  by_cases e : j = a
  · subst e
    obtain ⟨e, he, hb, rfl⟩ := waits_spec hoj hw
    exact getD_set_true (hall e he hb)
  · rw [getD_set_ne false e] at hl
    exact getD_set_true (h a b hw hl)
theorem sink_spec {j k : Nat} {listed : Array Bool} (hc : Closed ops listed) (hj : j ∈ Region.ready .any ops listed) (h : sink ops j = true) (hk : k < ops.size) (hne : k ≠ j) : listed.getD k false = true := by
  obtain ⟨_, oj, hoj, hall⟩ := mem_ready.1 hj
  have h1 := List.all_eq_true.1 h k (List.mem_range.2 hk)
  simp only [Bool.or_eq_true, beq_iff_eq] at h1
  rcases h1 with (h1 | h1) | h1
  · exact absurd h1 hne
  · obtain ⟨e, he, hb, rfl⟩ := waits_spec hoj h1
    exact hall e he hb
  · obtain ⟨i, _, hi⟩ := List.any_eq_true.1 h1
    simp only [Bool.and_eq_true] at hi
    obtain ⟨e, he, hb, rfl⟩ := waits_spec hoj hi.1
    exact hc _ _ hi.2 (hall e he hb)

def wpAnyS (P : Program) (ops : Array Oper) (Q : Exit → Act → World → Prop) (S : World → Prop) : Nat → Array Bool → Act → World → Prop
  | 0, listed, a, w => Region.ready .any ops listed = [] ∧ Q .normal a w
  | fuel + 1, listed, a, w =>
    (Region.ready .any ops listed = [] → Q .normal a w) ∧
    ∀ i ∈ Region.ready .any ops listed, wpOp P ops Q i (fun a' w' => (sink ops i = false → S w') ∧ wpAnyS P ops Q S fuel (listed.setIfInBounds i true) a' w') a w

theorem any_of_S : ∀ (fuel : Nat) (listed : Array Bool) (a : Act) (w : World), wpAnyS P ops Q S fuel listed a w → wpAny P .any ops Q fuel listed a w
  | 0, _, _, _, h => h
  | fuel + 1, _, _, _, h => ⟨h.1, fun i hi => wpOp_mono (fun a' w' h' => any_of_S fuel _ a' w' h'.2) (h.2 i hi)⟩

theorem S_first {i : Nat} {oi : Oper} {v : Value} (hi : ops[i]? = some oi) (hsel : ∀ (j : Nat) (o : Oper) cs b, ops[j]? = some o → o.op ≠ .select cs b)
    (hQ : ∀ c a w, Q (.panic c) (a.put oi.dst v) w → Q (.panic c) a w) :
    ∀ (fuel : Nat) (listed : Array Bool) (a : Act) (w : World),
      (∀ j oj, ops[j]? = some oj → j ≠ i → listed.getD j true = false → (∀ e ∈ oj.after, Region.binds .any e = true → e.on ≠ i) → oi.apart ops oj = true) →
      i ∈ Region.ready .any ops listed → Closed ops listed → YieldsIf P ops S oi v a → S w →
      wpAnyS P ops Q S fuel (listed.setIfInBounds i true) (a.put oi.dst v) w → wpAnyS P ops Q S (fuel + 1) listed a w := by
  intro fuel
  induction fuel with
  | zero =>
    intro listed a w _ hr _ hy hS H
    refine ⟨fun h => (by rw [h] at hr; cases hr), fun j hj => ?_⟩
    by_cases hji : j = i
    · subst hji; exact hy.wpOp hi hS ⟨fun _ => hS, H⟩
    · have := ready_mono hj hji
      rw [H.1] at this
      cases this
  | succ fuel ih =>
    intro listed a w hfree hr hcl hy hS H
    refine ⟨fun h => (by rw [h] at hr; cases hr), fun j hj => ?_⟩
    by_cases hji : j = i
    · subst hji; exact hy.wpOp hi hS ⟨fun _ => hS, H⟩
    · have h1 := H.2 j (ready_mono hj hji)
      obtain ⟨hjun, oj, hoj, hall⟩ := mem_ready.1 hj
      have hnot : ∀ e ∈ oj.after, Region.binds .any e = true → e.on ≠ i := fun e he hb heq => by
        have h1 := hall e he hb
        have h0 := (mem_ready.1 hr).1
        rw [heq] at h1
        rcases Nat.lt_or_ge i listed.size with h' | h'
        · simp [h'] at h0 h1; rw [h0] at h1; cases h1
        · simp [Array.getElem?_eq_none h'] at h1
      have hsink : sink ops j = false := by
        cases hs : sink ops j with
        | false => rfl
        | true =>
          have h0 := (mem_ready.1 hr).1
          have h1 := sink_spec hcl hj hs (Array.getElem?_eq_some_iff.1 hi).1 (Ne.symm hji)
          rcases Nat.lt_or_ge i listed.size with h' | h'
          · simp [h'] at h0 h1; rw [h0] at h1; cases h1
          · simp [Array.getElem?_eq_none h'] at h1
      have h2 := wpOp_putIf hoj (hfree j oj hoj hji hjun hnot) (fun cs b => hsel i oi cs b hi) (fun cs b => hsel j oj cs b hoj) hQ hy h1
      have hfree' : ∀ k ok, ops[k]? = some ok → k ≠ i → (listed.setIfInBounds j true).getD k true = false →
          (∀ e ∈ ok.after, Region.binds .any e = true → e.on ≠ i) → oi.apart ops ok = true := fun k ok hk hki hun hno => by
        refine hfree k ok hk hki ?_ hno
        by_cases hjk : j = k
        · subst hjk; exact hjun
        · rw [getD_set_ne true hjk] at hun; exact hun
      refine wpOp_mono (fun a' w' h3 => ⟨fun _ => h3.2.1 hsink, ih (listed.setIfInBounds j true) a' w' hfree' (ready_mono hr (Ne.symm hji)) (closed_set hcl hj) h3.1 (h3.2.1 hsink) ?_⟩) h2
      rw [Array.setIfInBounds_comm _ _ hji]
      exact h3.2.2

/-- the first n of m are listed -/
def upTo (n m : Nat) : Array Bool := ((List.range m).map fun i => decide (i < n)).toArray

/-- the text's order: each operation with whether it only reads -/
def wpTxt (P : Program) (ops : Array Oper) (Q : Exit → Act → World → Prop) (S : World → Prop) : Nat → List (Oper × Bool) → Act → World → Prop
  | _, [], a, w => Q .normal a w
  | n, (o, true) :: rest, a, w => ∃ v, YieldsIf P ops S o v a ∧ S w ∧ wpTxt P ops Q S (n + 1) rest (a.put o.dst v) w
  | n, (o, false) :: rest, a, w => (if Region.wanted o (yielded ops a.tmps) then o.wp P a w (fun a' w' => (sink ops n = false → S w') ∧ wpTxt P ops Q S (n + 1) rest a' w') Q else ((sink ops n = false → S w) ∧ wpTxt P ops Q S (n + 1) rest (a.put o.dst undef) w))

/-- may the operations be walked so? (closed: asked of the kernel) -/
def planFrom (ops : Array Oper) : Nat → List Bool → Bool
  | n, [] => n == ops.size && (Region.ready .any ops (upTo n ops.size)).isEmpty
  | n, q :: rest => (if q then (Region.ready .any ops (upTo n ops.size)).contains n && Region.free .any ops (upTo n ops.size) n && closed ops (upTo n ops.size) else Region.ready .any ops (upTo n ops.size) == [n]) &&
      (upTo n ops.size).setIfInBounds n true == upTo (n + 1) ops.size && planFrom ops (n + 1) rest
def inside (ops : Array Oper) : Bool := ops.all fun o => o.after.all fun e => e.on < ops.size
theorem inside_spec (h : inside ops = true) (j k : Nat) (hw : waits ops j k = true) : k < ops.size := by
  have hj : ops[j]? = some (ops[j]'(waits_lt hw)) := Array.getElem?_eq_getElem _
  obtain ⟨e, he, _, rfl⟩ := waits_spec hj hw
  have h1 := Array.all_eq_true_iff_forall_mem.1 h _ (Array.getElem_mem (waits_lt hw))
  have h2 := Array.all_eq_true_iff_forall_mem.1 h1 e he
  simpa using h2
def plan (ops : Array Oper) (flags : List Bool) : Bool := inside ops && Region.noSelect ops && flags.length == ops.size && planFrom ops 0 flags

theorem txt_sound (hin : inside ops = true) (hsel : ∀ (j : Nat) (o : Oper) cs b, ops[j]? = some o → o.op ≠ .select cs b) (hQ : ∀ c a d v w, Q (.panic c) (Act.put a d v) w → Q (.panic c) a w) :
    ∀ (flags : List Bool) (n : Nat) (a : Act) (w : World), n + flags.length = ops.size → planFrom ops n flags = true →
      wpTxt P ops Q S n ((ops.toList.drop n).zip flags) a w → wpAnyS P ops Q S flags.length (upTo n ops.size) a w
  | [], n, a, w, hn, hp, h => by
    simp only [planFrom, Bool.and_eq_true, beq_iff_eq, List.isEmpty_iff] at hp
    have e : ops.toList.drop n = [] := List.drop_of_length_le (by simp at hn ⊢; omega)
    rw [e] at h
    exact ⟨hp.2, h⟩
  | q :: rest, n, a, w, hn, hp, h => by
    simp only [planFrom, Bool.and_eq_true, beq_iff_eq] at hp
    obtain ⟨⟨hp1, hp2⟩, hp3⟩ := hp
    have hlt : n < ops.size := by simp at hn; omega
    have hi : ops[n]? = some ops[n] := Array.getElem?_eq_getElem hlt
    have e : ops.toList.drop n = ops[n] :: ops.toList.drop (n + 1) := by
      rw [List.drop_eq_getElem_cons (by simpa using hlt)]; simp
    rw [e, List.zip_cons_cons] at h
    cases q with
    | true =>
      simp only [if_true, Bool.and_eq_true] at hp1
      obtain ⟨v, hy, hS, h⟩ := h
      have ih := txt_sound hin hsel hQ rest (n + 1) _ w (by simp at hn; omega) hp3 h
      rw [← hp2] at ih
      exact S_first hi hsel (fun c a w => hQ c a _ _ w) _ _ _ _ (Region.free_spec hi hp1.1.2) (by simpa using hp1.1.1) (closed_spec hp1.2 (inside_spec hin)) hy hS ih
    | false =>
      simp only [Bool.false_eq_true, if_false, beq_iff_eq] at hp1
      have hr : Region.ready .any ops (upTo n ops.size) = [n] := by simpa using hp1
      refine ⟨fun h0 => (by rw [h0] at hr; cases hr), fun i hii => ?_⟩
      rw [hr] at hii
      obtain rfl := List.mem_singleton.1 hii
      unfold wpOp
      simp only [hi]
      simp only [wpTxt] at h
      have step : ∀ a' w', ((sink ops i = false → S w') ∧ wpTxt P ops Q S (i + 1) ((ops.toList.drop (i + 1)).zip rest) a' w') →
          (sink ops i = false → S w') ∧ wpAnyS P ops Q S rest.length ((upTo i ops.size).setIfInBounds i true) a' w' := fun a' w' h' =>
        ⟨h'.1, by rw [hp2]; exact txt_sound hin hsel hQ rest (i + 1) a' w' (by simp at hn; omega) hp3 h'.2⟩
      split
      · rename_i hw
        rw [if_pos hw] at h
        exact .inl (Oper.wp_mono step h)
      · rename_i hw
        rw [if_neg hw] at h
        exact step _ _ h

theorem upTo_zero (m : Nat) : upTo 0 m = Array.replicate m false := by
  apply Array.ext' ; simp [upTo, List.map_const']

/-- THE REGION, WALKED IN THE TEXT's ORDER. -/
theorem wp_region_txt {id : Nat} {l : List Oper} {a : Act} {w : World} (S : World → Prop) (flags : List Bool) (hm : P.follows .mixedOrders = true) (hp : plan l.toArray flags = true)
    (h : wpTxt P l.toArray (NoPanic Q) S 0 (l.zip flags) a w.drew) : (Code.region id l.toArray true).wp P Q a w := by
  refine wp_region_noPanic ?_
  simp only [plan, Bool.and_eq_true, beq_iff_eq] at hp
  obtain ⟨⟨⟨h0, h1⟩, h2⟩, h3⟩ := hp
  refine wp_region_any hm (any_of_S (S := S) _ _ _ _ ?_)
  have := txt_sound (P := P) (S := S) h0 (Region.noSelect_spec h1) (fun _ _ _ _ _ h => h) flags 0 a w.drew (by omega) h3 (by simpa using h)
  rw [upTo_zero, h2] at this
  exact this

/-- one that only reads: its value is found by running it in whatever world meets S -/
theorem txt_quiet {n : Nat} {o : Oper} {rest : List (Oper × Bool)} {a : Act} {w : World} {v : Value} (hg : o.guard = none) (hy : ∀ w', S w' → (execOp a.eval o).run P w' = .ok (.value v) w') (hS : S w)
    (h : wpTxt P ops Q S (n + 1) rest (a.put o.dst v) w) : wpTxt P ops Q S n ((o, true) :: rest) a w :=
  ⟨v, .inl ⟨by simp [Region.wanted, hg], hy⟩, hS, h⟩
/-- one that is carried out here -/
theorem txt_loud {n : Nat} {o : Oper} {rest : List (Oper × Bool)} {a : Act} {w : World} (hg : o.guard = none)
    (h : ∀ K : Act → World → Prop, (∀ a' w', (sink ops n = false → S w') → wpTxt P ops Q S (n + 1) rest a' w' → K a' w') → o.wp P a w K Q) : wpTxt P ops Q S n ((o, false) :: rest) a w := by
  simp only [wpTxt]
  rw [if_pos (by simp [Region.wanted, hg])]
  exact h _ fun a' w' h1 h2 => ⟨h1, h2⟩
theorem txt_load {n : Nat} {o : Oper} {rest : List (Oper × Bool)} {a : Act} {w : World} (hg : o.guard = none) (ty : TypeId) (x : Operand) (ho : o.op = .load ty x)
    (b k : Nat) (hx : a.eval x = .pointer (some ⟨b, k, none⟩)) (cs : List Value) (d : TypeDesc) (hc : ∀ w', S w' → w'.rangeAt b k cs)
    (hu : P.underlying ty = some d) (hd : d.isRow = true) (hi : (P.info? ty).map (·.size) = some cs.length) (hS : S w)
    (h : wpTxt P ops Q S (n + 1) rest (a.put o.dst (.agg cs.toArray)) w) : wpTxt P ops Q S n ((o, true) :: rest) a w :=
  txt_quiet hg (fun w' hw' => by
    unfold execOp
    simp only [ho, hx, Instr.loadAt, Instr.sureAddr, Sem.run_bind, Sem.run_pure, Result.andThen_ok, run_loadVar_mid w' b k ty cs d (hc w' hw') hu hd hi]) hS h
theorem txt_store {n : Nat} {o : Oper} {rest : List (Oper × Bool)} {a : Act} {w : World} (hg : o.guard = none) (ty : TypeId) (x y : Operand) (ho : o.op = .store ty x y)
    (b k : Nat) (cells : Array Value) (hx : a.eval x = .pointer (some ⟨b, k, none⟩)) (hy : a.eval y = .agg cells)
    (ht : w.there b k cells.size) (hi : (P.info? ty).map (·.size) = some cells.size) (h1 : cells.all (·.oneCell') = true)
    (h : (sink ops n = false → S (w.setCells b k cells.toList)) ∧ wpTxt P ops Q S (n + 1) rest (a.put o.dst undef) (w.setCells b k cells.toList)) : wpTxt P ops Q S n ((o, false) :: rest) a w :=
  txt_loud hg fun _ hK => wp_store_mid ty x y ho b k cells hx hy ht hi h1 (hK _ _ h.1 h.2)
open Kt Go.RowKit in
theorem txt_push {n : Nat} {o : Oper} {rest : List (Oper × Bool)} {a : Act} {w : World} {cs : Array Value} {E : TypeId} (W : World) (hW : w = W.alloc (.cells cs E))
    (hgd : o.guard = none) (s x : Operand) (t : TypeId) (ho : o.op = .call { callee := .builtin .append, args := #[s, x], argTypes := #[t, t] })
    (ht : P.underlying t = some (.slice E)) (hi : (P.info? E).map (fun i => (i.zero, i.size, i.bytes)) = some (some (.int .u8 0), 1, 1))
    (B : Nat) (w0 : World) (v : Value) (l news : List UInt8) (m c : Nat) (hs : a.eval s = v) (hx : a.eval x = .slice (some ⟨W.heap.size, 0, none⟩) m c)
    (hown : Own W B E v l) (hc : cs = (u8s news).toArray) (hm : m = news.length) (hlen : l.length + news.length ≤ 70368744177664) (hb : Below B w0 W) (hbase : B ≤ W.heap.size)
    (h : ∀ v' w', Own w' B E v' (l ++ news) → Below B w0 w' → W.grownBy w' v.ownBlock → (sink ops n = false → S w') ∧ wpTxt P ops Q S (n + 1) rest (a.put o.dst v') w') : wpTxt P ops Q S n ((o, false) :: rest) a w := by
  subst hW
  exact txt_loud hgd fun K hK => wp_push s x t ho ht hi B w0 v l news m c hs hx hown hc hm hlen hb hbase fun v' w' h1 h2 h3 => hK _ _ (h v' w' h1 h2 h3).1 (h v' w' h1 h2 h3).2
theorem not_sink {n : Nat} {p : Prop} (hs : sink ops n = true) (h : sink ops n = false) : p := by rw [hs] at h; cases h
theorem txt_nil {n : Nat} {a : Act} {w : World} (h : Q .normal a w) : wpTxt P ops (NoPanic Q) S n [] a w := NoPanic.normal h
end
end Go.Proofs.Ytghnieddokhagaa.Rg
namespace Go.Proofs.Ytghnieddokhagaa.Rg
open Go

section
variable {P : Program} {ops : Array Oper} {Q : Exit → Act → World → Prop} {S : World → Prop}

def wpOrd (P : Program) (ops : Array Oper) (Q : Exit → Act → World → Prop) (S : World → Prop) : List (Nat × Oper × Bool) → Act → World → Prop
  | [], a, w => Q .normal a w
  | (_, o, true) :: rest, a, w => ∃ v, YieldsIf P ops S o v a ∧ S w ∧ wpOrd P ops Q S rest (a.put o.dst v) w
  | (n, o, false) :: rest, a, w => (if Region.wanted o (yielded ops a.tmps) then o.wp P a w (fun a' w' => (sink ops n = false → S w') ∧ wpOrd P ops Q S rest a' w') Q else ((sink ops n = false → S w) ∧ wpOrd P ops Q S rest (a.put o.dst undef) w))

def ordFrom (ops : Array Oper) : Array Bool → List (Nat × Bool) → Bool
  | listed, [] => (Region.ready .any ops listed).isEmpty
  | listed, (n, q) :: rest => decide (n < ops.size) && (if q then (Region.ready .any ops listed).contains n && Region.free .any ops listed n && closed ops listed else Region.ready .any ops listed == [n]) && ordFrom ops (listed.setIfInBounds n true) rest
def ordPlan (ops : Array Oper) (order : List (Nat × Bool)) : Bool := inside ops && Region.noSelect ops && order.length == ops.size && ordFrom ops (Array.replicate ops.size false) order
def pick (l : List Oper) (order : List (Nat × Bool)) : List (Nat × Oper × Bool) := order.map fun x => (x.1, l.getD x.1 default, x.2)

theorem ord_sound {l : List Oper} (he : ops = l.toArray) (hin : inside ops = true) (hsel : ∀ (j : Nat) (o : Oper) cs b, ops[j]? = some o → o.op ≠ .select cs b) (hQ : ∀ c a d v w, Q (.panic c) (Act.put a d v) w → Q (.panic c) a w) :
    ∀ (order : List (Nat × Bool)) (listed : Array Bool) (a : Act) (w : World), ordFrom ops listed order = true →
      wpOrd P ops Q S (pick l order) a w → wpAnyS P ops Q S order.length listed a w
  | [], listed, a, w, hp, h => by
    simp only [ordFrom, List.isEmpty_iff] at hp
    exact ⟨hp, h⟩
  | (n, q) :: rest, listed, a, w, hp, h => by
    simp only [ordFrom, Bool.and_eq_true, decide_eq_true_eq] at hp
    obtain ⟨⟨hlt, hp1⟩, hp3⟩ := hp
    have hi : ops[n]? = some (l.getD n default) := by
      subst he
      have : n < l.length := by simpa using hlt
      simp [List.getElem?_eq_getElem this]
    have e : pick l ((n, q) :: rest) = (n, l.getD n default, q) :: pick l rest := rfl
    rw [e] at h
    cases q with
    | true =>
      simp only [if_true, Bool.and_eq_true] at hp1
      obtain ⟨v, hy, hS, h⟩ := h
      have ih := ord_sound he hin hsel hQ rest _ _ w hp3 h
      exact S_first hi hsel (fun c a w => hQ c a _ _ w) _ _ _ _ (Region.free_spec hi hp1.1.2) (by simpa using hp1.1.1) (closed_spec hp1.2 (inside_spec hin)) hy hS ih
    | false =>
      simp only [Bool.false_eq_true, if_false, beq_iff_eq] at hp1
      refine ⟨fun h0 => (by rw [h0] at hp1; cases hp1), fun i hii => ?_⟩
      rw [hp1] at hii
      obtain rfl := List.mem_singleton.1 hii
      unfold wpOp
      simp only [hi]
      simp only [wpOrd] at h
      have step : ∀ a' w', ((sink ops i = false → S w') ∧ wpOrd P ops Q S (pick l rest) a' w') →
          (sink ops i = false → S w') ∧ wpAnyS P ops Q S rest.length (listed.setIfInBounds i true) a' w' := fun a' w' h' =>
        ⟨h'.1, ord_sound he hin hsel hQ rest _ a' w' hp3 h'.2⟩
      split
      · rename_i hw
        rw [if_pos hw] at h
        exact .inl (Oper.wp_mono step h)
      · rename_i hw
        rw [if_neg hw] at h
        exact step _ _ h

/-- THE REGION, WALKED IN THE ORDER THAT IS GIVEN. -/
theorem wp_region_ord {id : Nat} {l : List Oper} {a : Act} {w : World} (S : World → Prop) (order : List (Nat × Bool)) (hm : P.follows .mixedOrders = true) (hp : ordPlan l.toArray order = true)
    (h : wpOrd P l.toArray (NoPanic Q) S (pick l order) a w.drew) : (Code.region id l.toArray true).wp P Q a w := by
  refine wp_region_noPanic ?_
  simp only [ordPlan, Bool.and_eq_true, beq_iff_eq] at hp
  obtain ⟨⟨⟨h0, h1⟩, h2⟩, h3⟩ := hp
  refine wp_region_any hm (any_of_S (S := S) _ _ _ _ ?_)
  have := ord_sound (P := P) (S := S) rfl h0 (Region.noSelect_spec h1) (fun _ _ _ _ _ h => h) order _ a w.drew h3 h
  rw [h2] at this
  exact this

theorem ord_quiet {n : Nat} {o : Oper} {rest : List (Nat × Oper × Bool)} {a : Act} {w : World} {v : Value} (hg : o.guard = none) (hy : ∀ w', S w' → (execOp a.eval o).run P w' = .ok (.value v) w') (hS : S w)
    (h : wpOrd P ops Q S rest (a.put o.dst v) w) : wpOrd P ops Q S ((n, o, true) :: rest) a w :=
  ⟨v, .inl ⟨by simp [Region.wanted, hg], hy⟩, hS, h⟩
/-- one whose guard says no -/
theorem ord_passed {n : Nat} {o : Oper} {rest : List (Nat × Oper × Bool)} {a : Act} {w : World} (hg : Region.wanted o (yielded ops a.tmps) = false) (hS : S w)
    (h : wpOrd P ops Q S rest (a.put o.dst undef) w) : wpOrd P ops Q S ((n, o, true) :: rest) a w :=
  ⟨undef, .inr ⟨hg, rfl⟩, hS, h⟩
/-- one whose guard says yes -/
theorem ord_guarded {n : Nat} {o : Oper} {rest : List (Nat × Oper × Bool)} {a : Act} {w : World} {v : Value} (hg : Region.wanted o (yielded ops a.tmps) = true) (hy : ∀ w', S w' → (execOp a.eval o).run P w' = .ok (.value v) w') (hS : S w)
    (h : wpOrd P ops Q S rest (a.put o.dst v) w) : wpOrd P ops Q S ((n, o, true) :: rest) a w :=
  ⟨v, .inl ⟨hg, hy⟩, hS, h⟩
theorem ord_loud {n : Nat} {o : Oper} {rest : List (Nat × Oper × Bool)} {a : Act} {w : World} (hg : Region.wanted o (yielded ops a.tmps) = true)
    (h : ∀ K : Act → World → Prop, (∀ a' w', (sink ops n = false → S w') → wpOrd P ops Q S rest a' w' → K a' w') → o.wp P a w K Q) : wpOrd P ops Q S ((n, o, false) :: rest) a w := by
  simp only [wpOrd]
  rw [if_pos hg]
  exact h _ fun a' w' h1 h2 => ⟨h1, h2⟩
open Kt Go.RowKit in
theorem ord_push {n : Nat} {o : Oper} {rest : List (Nat × Oper × Bool)} {a : Act} {w : World} {cs : Array Value} {E : TypeId} (W : World) (hW : w = W.alloc (.cells cs E))
    (hgd : o.guard = none) (s x : Operand) (t : TypeId) (ho : o.op = .call { callee := .builtin .append, args := #[s, x], argTypes := #[t, t] })
    (ht : P.underlying t = some (.slice E)) (hi : (P.info? E).map (fun i => (i.zero, i.size, i.bytes)) = some (some (.int .u8 0), 1, 1))
    (B : Nat) (w0 : World) (v : Value) (l news : List UInt8) (m c : Nat) (hs : a.eval s = v) (hx : a.eval x = .slice (some ⟨W.heap.size, 0, none⟩) m c)
    (hown : Own W B E v l) (hc : cs = (u8s news).toArray) (hm : m = news.length) (hlen : l.length + news.length ≤ 70368744177664) (hb : Below B w0 W) (hbase : B ≤ W.heap.size)
    (h : ∀ v' w', Own w' B E v' (l ++ news) → Below B w0 w' → W.grownBy w' v.ownBlock → (sink ops n = false → S w') ∧ wpOrd P ops Q S rest (a.put o.dst v') w') : wpOrd P ops Q S ((n, o, false) :: rest) a w := by
  subst hW
  exact ord_loud (by simp [Region.wanted, hgd]) fun K hK => wp_push s x t ho ht hi B w0 v l news m c hs hx hown hc hm hlen hb hbase fun v' w' h1 h2 h3 => hK _ _ (h v' w' h1 h2 h3).1 (h v' w' h1 h2 h3).2
theorem ord_nil {a : Act} {w : World} (h : Q .normal a w) : wpOrd P ops (NoPanic Q) S [] a w := NoPanic.normal h
end
end Go.Proofs.Ytghnieddokhagaa.Rg
namespace Go.Proofs.Ytghnieddokhagaa.Rv
open Go Rg

/-- how many aren't done -/
def left : List Bool → Nat
  | [] => 0
  | b :: l => (if b then 0 else 1) + left l
theorem left_set : ∀ (l : List Bool) (i : Nat), l[i]? = some false → left (l.set i true) + 1 = left l
  | [], _, h => by simp at h
  | b :: l, 0, h => by
    simp at h
    subst h
    simp [left]; omega
  | b :: l, i + 1, h => by
    have := left_set l i (by simpa using h)
    simp only [List.set_cons_succ, left]; omega
theorem left_zero : ∀ (l : List Bool) (i : Nat), left l = 0 → i < l.length → l[i]? = some true
  | [], _, _, h => by simp at h
  | b :: l, 0, h, _ => by
    cases b
    · simp only [left, Bool.false_eq_true, if_false] at h; omega
    · rfl
  | b :: l, i + 1, h, hi => by
    rw [List.getElem?_cons_succ]
    simp only [left] at h
    exact left_zero l i (by omega) (by simpa using hi)
theorem left_le : ∀ l : List Bool, left l ≤ l.length
  | [] => Nat.le_refl _
  | b :: l => by
    have := left_le l
    simp only [left, List.length_cons]
    split <;> omega
/-- no operation is guarded, and each waits for earlier ones alone -/
def plain (ops : Array Oper) : Bool := (List.range ops.size).all fun i => ((ops[i]?).map fun o => o.guard.isNone && o.after.all fun e => decide (e.on < i)).getD true
section
variable {P : Program} {ops : Array Oper} {Q : Exit → Act → World → Prop}
theorem plain_spec (hp : plain ops = true) {i : Nat} {o : Oper} (ho : ops[i]? = some o) : o.guard = none ∧ ∀ e ∈ o.after, e.on < i := by
  have hlt : i < ops.size := (Array.getElem?_eq_some_iff.1 ho).1
  have h1 := List.all_eq_true.1 hp i (List.mem_range.2 hlt)
  rw [ho] at h1
  simp only [Option.map_some, Option.getD_some, Bool.and_eq_true, Option.isNone_iff_eq_none] at h1
  exact ⟨h1.1, fun e he => by have := Array.all_eq_true_iff_forall_mem.1 h1.2 e he; simpa using this⟩
theorem get_listed {listed : Array Bool} {i : Nat} (h : i < listed.size) : listed.getD i true = listed.getD i false := by
  simp [h]
theorem all_listed (hp : plain ops = true) {listed : Array Bool} (hs : listed.size = ops.size) (hr : Region.ready .any ops listed = []) : ∀ n i, i < n → i < ops.size → listed.getD i false = true
  | 0, _, h, _ => absurd h (Nat.not_lt_zero _)
  | n + 1, i, h, hi => by
    cases hb : listed.getD i false with
    | true => rfl
    | false =>
      have ho : ops[i]? = some ops[i] := Array.getElem?_eq_getElem hi
      have hm : i ∈ Region.ready .any ops listed := mem_ready.2 ⟨by rw [get_listed (by omega), hb], ops[i], ho, fun e he _ => by
        have hlt := (plain_spec hp ho).2 e he
        exact all_listed hp hs hr n e.on (by omega) (by omega)⟩
      rw [hr] at hm
      cases hm
theorem any_inv (hp : plain ops = true) (I : Array Bool → Act → World → Prop)
    (hstep : ∀ listed a w i o, I listed a w → ops[i]? = some o → listed.getD i true = false → (∀ e ∈ o.after, Region.binds .any e = true → listed.getD e.on false = true) → o.wp P a w (I (listed.setIfInBounds i true)) Q)
    (hend : ∀ listed a w, I listed a w → (∀ i, i < ops.size → listed.getD i false = true) → Q .normal a w) :
    ∀ (fuel : Nat) (listed : Array Bool) (a : Act) (w : World), listed.size = ops.size → left listed.toList ≤ fuel → I listed a w → wpAny P .any ops Q fuel listed a w
  | 0, listed, a, w, hs, hl, hI => by
    have hall : ∀ i, i < ops.size → listed.getD i false = true := fun i hi => by
      have h1 := left_zero listed.toList i (by omega) (by simp; omega)
      have h2 : listed[i]? = some true := by simpa using h1
      simp [h2]
    refine ⟨?_, hend _ _ _ hI hall⟩
    rw [List.eq_nil_iff_forall_not_mem]
    intro i hi
    obtain ⟨h1, o, ho, _⟩ := mem_ready.1 hi
    have hlt : i < ops.size := (Array.getElem?_eq_some_iff.1 ho).1
    have := hall i hlt
    rw [get_listed (by omega), this] at h1
    cases h1
  | fuel + 1, listed, a, w, hs, hl, hI => by
    refine ⟨fun hr => hend _ _ _ hI fun i hi => all_listed hp hs hr (i + 1) i (by omega) hi, fun i hi => ?_⟩
    obtain ⟨h1, o, ho, hdep⟩ := mem_ready.1 hi
    have hlt : i < ops.size := (Array.getElem?_eq_some_iff.1 ho).1
    have h3 := hstep listed a w i o hI ho h1 hdep
    unfold wpOp
    simp only [ho]
    rw [if_pos (by unfold Region.wanted; rw [(plain_spec hp ho).1])]
    refine .inl (Oper.wp_mono (fun a' w' h' => any_inv hp I hstep hend fuel _ a' w' (by simp [hs]) ?_ h') h3)
    have h4 : listed.toList[i]? = some false := by
      have hlt' : i < listed.size := by omega
      simp [hlt'] at h1
      simp [hlt', h1]
    have h5 := left_set _ _ h4
    rw [Array.toList_setIfInBounds]
    omega
/-- THE REGION, WALKED BY WHAT HOLDS. -/
theorem wp_region_inv {id : Nat} {l : List Oper} {a : Act} {w : World} (I : Array Bool → Act → World → Prop) (hm : P.follows .mixedOrders = true) (hp : plain l.toArray = true)
    (hstart : I (Array.replicate l.length false) a w.drew)
    (hstep : ∀ listed a w i o, I listed a w → l[i]? = some o → listed.size = l.length → (∀ k, Rg.waits l.toArray i k = true → listed.getD k false = true) →
      ∀ K : Act → World → Prop, (∀ a' w', I (listed.setIfInBounds i true) a' w' → K a' w') → o.wp P a w K (NoPanic Q))
    (hend : ∀ listed a w, I listed a w → (∀ i, i < l.length → listed.getD i false = true) → Q .normal a w) : (Code.region id l.toArray true).wp P Q a w := by
  refine wp_region_noPanic ?_
  refine wp_region_any hm ?_
  refine any_inv hp (fun listed a w => listed.size = l.length ∧ I listed a w) (fun listed a w i o hI ho _ hdep => ?_) (fun listed a w hI hl => NoPanic.normal (hend listed a w hI.2 (by simpa using hl))) _ _ _ _ (by simp) ?_ ⟨by simp, by simpa using hstart⟩
  · refine hstep listed a w i o hI.2 (by simpa using ho) hI.1 (fun k hk => ?_) _ fun a' w' h => ⟨by simp [hI.1], h⟩
    obtain ⟨e, he, hb, rfl⟩ := Rg.waits_spec ho hk
    exact hdep e he hb
  · have := left_le (Array.replicate l.toArray.size false).toList
    simpa using this
end
end Go.Proofs.Ytghnieddokhagaa.Rv
namespace Go.Proofs.Ytghnieddokhagaa.Rv
open Go Rg

/-- no operation is guarded, and each waits for earlier ones alone, but for what does not bind -/
def plainB (ops : Array Oper) : Bool := (List.range ops.size).all fun i => ((ops[i]?).map fun o => o.guard.isNone && o.after.all fun e => !Region.binds .any e || decide (e.on < i)).getD true
section
variable {F : Fence} {n : Nat} {P : Program} {ops : Array Oper} {Q : Exit → Act → World → Prop}
theorem plainB_spec (hp : plainB ops = true) {i : Nat} {o : Oper} (ho : ops[i]? = some o) : o.guard = none ∧ ∀ e ∈ o.after, Region.binds .any e = true → e.on < i := by
  have hlt : i < ops.size := (Array.getElem?_eq_some_iff.1 ho).1
  have h1 := List.all_eq_true.1 hp i (List.mem_range.2 hlt)
  rw [ho] at h1
  simp only [Option.map_some, Option.getD_some, Bool.and_eq_true, Option.isNone_iff_eq_none] at h1
  refine ⟨h1.1, fun e he hb => ?_⟩
  have := Array.all_eq_true_iff_forall_mem.1 h1.2 e he
  rw [hb] at this
  simpa using this
theorem all_listedB (hp : plainB ops = true) {listed : Array Bool} (hs : listed.size = ops.size) (hr : Region.ready .any ops listed = []) : ∀ n i, i < n → i < ops.size → listed.getD i false = true
  | 0, _, h, _ => absurd h (Nat.not_lt_zero _)
  | n + 1, i, h, hi => by
    cases hb : listed.getD i false with
    | true => rfl
    | false =>
      have ho : ops[i]? = some ops[i] := Array.getElem?_eq_getElem hi
      have hm : i ∈ Region.ready .any ops listed := mem_ready.2 ⟨by rw [get_listed (by omega), hb], ops[i], ho, fun e he hbi => by
        have hlt := (plainB_spec hp ho).2 e he hbi
        exact all_listedB hp hs hr n e.on (by omega) (by omega)⟩
      rw [hr] at hm
      cases hm
theorem any_invIn (hp : plainB ops = true) (I : Array Bool → Act → World → Prop)
    (hstep : ∀ listed a w i o, I listed a w → ops[i]? = some o → listed.getD i true = false → (∀ e ∈ o.after, Region.binds .any e = true → listed.getD e.on false = true) → o.wpIn F n P a w (I (listed.setIfInBounds i true)) Q)
    (hend : ∀ listed a w, I listed a w → (∀ i, i < ops.size → listed.getD i false = true) → Q .normal a w) :
    ∀ (fuel : Nat) (listed : Array Bool) (a : Act) (w : World), listed.size = ops.size → left listed.toList ≤ fuel → I listed a w → wpAnyIn F n P .any ops Q fuel listed a w
  | 0, listed, a, w, hs, hl, hI => by
    have hall : ∀ i, i < ops.size → listed.getD i false = true := fun i hi => by
      have h1 := left_zero listed.toList i (by omega) (by simp; omega)
      have h2 : listed[i]? = some true := by simpa using h1
      simp [h2]
    refine ⟨?_, hend _ _ _ hI hall⟩
    rw [List.eq_nil_iff_forall_not_mem]
    intro i hi
    obtain ⟨h1, o, ho, _⟩ := mem_ready.1 hi
    have hlt : i < ops.size := (Array.getElem?_eq_some_iff.1 ho).1
    have := hall i hlt
    rw [get_listed (by omega), this] at h1
    cases h1
  | fuel + 1, listed, a, w, hs, hl, hI => by
    refine ⟨fun hr => hend _ _ _ hI fun i hi => all_listedB hp hs hr (i + 1) i (by omega) hi, fun i hi => ?_⟩
    obtain ⟨h1, o, ho, hdep⟩ := mem_ready.1 hi
    have hlt : i < ops.size := (Array.getElem?_eq_some_iff.1 ho).1
    have h3 := hstep listed a w i o hI ho h1 hdep
    unfold wpOpIn
    simp only [ho]
    rw [if_pos (by unfold Region.wanted; rw [(plainB_spec hp ho).1])]
    refine Oper.wpIn_mono (fun a' w' h' => any_invIn hp I hstep hend fuel _ a' w' (by simp [hs]) ?_ h') h3
    have h4 : listed.toList[i]? = some false := by
      have hlt' : i < listed.size := by omega
      simp [hlt'] at h1
      simp [hlt', h1]
    have h5 := left_set _ _ h4
    rw [Array.toList_setIfInBounds]
    omega
/-- THE REGION, WALKED BY WHAT HOLDS. -/
theorem wpIn_region_inv {id : Nat} {l : List Oper} {a : Act} {w : World} (I : Array Bool → Act → World → Prop) (hm : P.follows .mixedOrders = true) (hp : plainB l.toArray = true)
    (hstart : I (Array.replicate l.length false) a w.drew)
    (hstep : ∀ listed a w i o, I listed a w → l[i]? = some o → listed.size = l.length → listed.getD i false = false → (∀ k, Rg.waits l.toArray i k = true → listed.getD k false = true) →
      ∀ K : Act → World → Prop, (∀ a' w', I (listed.setIfInBounds i true) a' w' → K a' w') → o.wpIn F n P a w K Q)
    (hend : ∀ listed a w, I listed a w → (∀ i, i < l.length → listed.getD i false = true) → Q .normal a w) : (Code.region id l.toArray true).wpIn F n P Q a w := by
  refine wpIn_region_any hm ?_
  refine any_invIn hp (fun listed a w => listed.size = l.length ∧ I listed a w) (fun listed a w i o hI ho hnl hdep => ?_) (fun listed a w hI hl => hend listed a w hI.2 (by simpa using hl)) _ _ _ _ (by simp) ?_ ⟨by simp, by simpa using hstart⟩
  · refine hstep listed a w i o hI.2 (by simpa using ho) hI.1 (by rw [← get_listed (by rw [hI.1]; have := (Array.getElem?_eq_some_iff.1 ho).1; simpa using this)]; exact hnl) (fun k hk => ?_) _ fun a' w' h => ⟨by simp [hI.1], h⟩
    obtain ⟨e, he, hb, rfl⟩ := Rg.waits_spec ho hk
    exact hdep e he hb
  · have := left_le (Array.replicate l.toArray.size false).toList
    simpa using this
end
end Go.Proofs.Ytghnieddokhagaa.Rv
namespace Go.Proofs.Ytghnieddokhagaa.Rc
open Go Rg

section
variable {P : Program} {ops : Array Oper} {Q : Exit → Act → World → Prop} {S : World → Prop}

/-- what j waits for, over d steps -/
def front (ops : Array Oper) (j : Nat) : Nat → List Nat
  | 0 => [j]
  | d + 1 => (List.range ops.size).filter fun k => (front ops j d).contains k || (front ops j d).any fun i => waits ops i k
/-- does every other one wait for j, or j for it? -/
def sink (ops : Array Oper) (j : Nat) : Bool :=
  (fun l => (List.range ops.size).all fun k => k == j || waits ops k j || l.contains k) (front ops j 12)
theorem front_spec {j : Nat} {listed : Array Bool} (hc : Closed ops listed) (hj : j ∈ Region.ready .any ops listed) : ∀ (d k : Nat), k ∈ front ops j d → k ≠ j → listed.getD k false = true
  | 0, k, h, hne => absurd (List.mem_singleton.1 h) hne
  | d + 1, k, h, hne => by
    have h1 := (List.mem_filter.1 h).2
    simp only [Bool.or_eq_true] at h1
    rcases h1 with h1 | h1
    · exact front_spec hc hj d k (by simpa using h1) hne
    · obtain ⟨i, hi, hw⟩ := List.any_eq_true.1 h1
      by_cases e : i = j
      · subst e
        obtain ⟨_, oj, hoj, hall⟩ := mem_ready.1 hj
        obtain ⟨e, he, hb, rfl⟩ := waits_spec hoj hw
        exact hall e he hb
      · exact hc _ _ hw (front_spec hc hj d i hi e)
theorem sink_spec {j k : Nat} {listed : Array Bool} (hc : Closed ops listed) (hj : j ∈ Region.ready .any ops listed) (hr : k ∈ Region.ready .any ops listed) (h : sink ops j = true) (hk : k < ops.size) (hne : k ≠ j) : listed.getD k false = true := by
  have h1 := List.all_eq_true.1 h k (List.mem_range.2 hk)
  simp only [Bool.or_eq_true, beq_iff_eq] at h1
  rcases h1 with (h1 | h1) | h1
  · exact absurd h1 hne
  · exfalso
    obtain ⟨_, ok, hok, hall⟩ := mem_ready.1 hr
    obtain ⟨e, he, hb, rfl⟩ := waits_spec hok h1
    have h2 := hall e he hb
    have h0 := (mem_ready.1 hj).1
    rcases Nat.lt_or_ge e.on listed.size with h' | h'
    · simp [h'] at h0 h2; rw [h0] at h2; cases h2
    · simp [Array.getElem?_eq_none h'] at h2
  · exact front_spec hc hj 12 k (by simpa using h1) hne

def wpAnyS (P : Program) (ops : Array Oper) (Q : Exit → Act → World → Prop) (S : World → Prop) : Nat → Array Bool → Act → World → Prop
  | 0, listed, a, w => Region.ready .any ops listed = [] ∧ Q .normal a w
  | fuel + 1, listed, a, w =>
    (Region.ready .any ops listed = [] → Q .normal a w) ∧
    ∀ i ∈ Region.ready .any ops listed, wpOp P ops Q i (fun a' w' => (sink ops i = false → S w') ∧ wpAnyS P ops Q S fuel (listed.setIfInBounds i true) a' w') a w

theorem any_of_S : ∀ (fuel : Nat) (listed : Array Bool) (a : Act) (w : World), wpAnyS P ops Q S fuel listed a w → wpAny P .any ops Q fuel listed a w
  | 0, _, _, _, h => h
  | fuel + 1, _, _, _, h => ⟨h.1, fun i hi => wpOp_mono (fun a' w' h' => any_of_S fuel _ a' w' h'.2) (h.2 i hi)⟩

theorem S_first {i : Nat} {oi : Oper} {v : Value} (hi : ops[i]? = some oi) (hsel : ∀ (j : Nat) (o : Oper) cs b, ops[j]? = some o → o.op ≠ .select cs b)
    (hQ : ∀ c a w, Q (.panic c) (a.put oi.dst v) w → Q (.panic c) a w) :
    ∀ (fuel : Nat) (listed : Array Bool) (a : Act) (w : World),
      (∀ j oj, ops[j]? = some oj → j ≠ i → listed.getD j true = false → (∀ e ∈ oj.after, Region.binds .any e = true → e.on ≠ i) → oi.apart ops oj = true) →
      i ∈ Region.ready .any ops listed → Closed ops listed → YieldsIf P ops S oi v a → S w →
      wpAnyS P ops Q S fuel (listed.setIfInBounds i true) (a.put oi.dst v) w → wpAnyS P ops Q S (fuel + 1) listed a w := by
  intro fuel
  induction fuel with
  | zero =>
    intro listed a w _ hr _ hy hS H
    refine ⟨fun h => (by rw [h] at hr; cases hr), fun j hj => ?_⟩
    by_cases hji : j = i
    · subst hji; exact hy.wpOp hi hS ⟨fun _ => hS, H⟩
    · have := ready_mono hj hji
      rw [H.1] at this
      cases this
  | succ fuel ih =>
    intro listed a w hfree hr hcl hy hS H
    refine ⟨fun h => (by rw [h] at hr; cases hr), fun j hj => ?_⟩
    by_cases hji : j = i
    · subst hji; exact hy.wpOp hi hS ⟨fun _ => hS, H⟩
    · have h1 := H.2 j (ready_mono hj hji)
      obtain ⟨hjun, oj, hoj, hall⟩ := mem_ready.1 hj
      have hnot : ∀ e ∈ oj.after, Region.binds .any e = true → e.on ≠ i := fun e he hb heq => by
        have h1 := hall e he hb
        have h0 := (mem_ready.1 hr).1
        rw [heq] at h1
        rcases Nat.lt_or_ge i listed.size with h' | h'
        · simp [h'] at h0 h1; rw [h0] at h1; cases h1
        · simp [Array.getElem?_eq_none h'] at h1
      have hsink : sink ops j = false := by
        cases hs : sink ops j with
        | false => rfl
        | true =>
          have h0 := (mem_ready.1 hr).1
          have h1 := sink_spec hcl hj hr hs (Array.getElem?_eq_some_iff.1 hi).1 (Ne.symm hji)
          rcases Nat.lt_or_ge i listed.size with h' | h'
          · simp [h'] at h0 h1; rw [h0] at h1; cases h1
          · simp [Array.getElem?_eq_none h'] at h1
      have h2 := wpOp_putIf hoj (hfree j oj hoj hji hjun hnot) (fun cs b => hsel i oi cs b hi) (fun cs b => hsel j oj cs b hoj) hQ hy h1
      have hfree' : ∀ k ok, ops[k]? = some ok → k ≠ i → (listed.setIfInBounds j true).getD k true = false →
          (∀ e ∈ ok.after, Region.binds .any e = true → e.on ≠ i) → oi.apart ops ok = true := fun k ok hk hki hun hno => by
        refine hfree k ok hk hki ?_ hno
        by_cases hjk : j = k
        · subst hjk; exact hjun
        · rw [getD_set_ne true hjk] at hun; exact hun
      refine wpOp_mono (fun a' w' h3 => ⟨fun _ => h3.2.1 hsink, ih (listed.setIfInBounds j true) a' w' hfree' (ready_mono hr (Ne.symm hji)) (closed_set hcl hj) h3.1 (h3.2.1 hsink) ?_⟩) h2
      rw [Array.setIfInBounds_comm _ _ hji]
      exact h3.2.2

def wpOrd (P : Program) (ops : Array Oper) (Q : Exit → Act → World → Prop) (S : World → Prop) : List (Nat × Oper × Bool) → Act → World → Prop
  | [], a, w => Q .normal a w
  | (_, o, true) :: rest, a, w => ∃ v, YieldsIf P ops S o v a ∧ S w ∧ wpOrd P ops Q S rest (a.put o.dst v) w
  | (n, o, false) :: rest, a, w => (if Region.wanted o (yielded ops a.tmps) then o.wp P a w (fun a' w' => (sink ops n = false → S w') ∧ wpOrd P ops Q S rest a' w') Q else ((sink ops n = false → S w) ∧ wpOrd P ops Q S rest (a.put o.dst undef) w))

theorem ord_sound {l : List Oper} (he : ops = l.toArray) (hin : inside ops = true) (hsel : ∀ (j : Nat) (o : Oper) cs b, ops[j]? = some o → o.op ≠ .select cs b) (hQ : ∀ c a d v w, Q (.panic c) (Act.put a d v) w → Q (.panic c) a w) :
    ∀ (order : List (Nat × Bool)) (listed : Array Bool) (a : Act) (w : World), ordFrom ops listed order = true →
      wpOrd P ops Q S (pick l order) a w → wpAnyS P ops Q S order.length listed a w
  | [], listed, a, w, hp, h => by
    simp only [ordFrom, List.isEmpty_iff] at hp
    exact ⟨hp, h⟩
  | (n, q) :: rest, listed, a, w, hp, h => by
    simp only [ordFrom, Bool.and_eq_true, decide_eq_true_eq] at hp
    obtain ⟨⟨hlt, hp1⟩, hp3⟩ := hp
    have hi : ops[n]? = some (l.getD n default) := by
      subst he
      have : n < l.length := by simpa using hlt
      simp [List.getElem?_eq_getElem this]
    have e : pick l ((n, q) :: rest) = (n, l.getD n default, q) :: pick l rest := rfl
    rw [e] at h
    cases q with
    | true =>
      simp only [if_true, Bool.and_eq_true] at hp1
      obtain ⟨v, hy, hS, h⟩ := h
      have ih := ord_sound he hin hsel hQ rest _ _ w hp3 h
      exact S_first hi hsel (fun c a w => hQ c a _ _ w) _ _ _ _ (Region.free_spec hi hp1.1.2) (by simpa using hp1.1.1) (closed_spec hp1.2 (inside_spec hin)) hy hS ih
    | false =>
      simp only [Bool.false_eq_true, if_false, beq_iff_eq] at hp1
      refine ⟨fun h0 => (by rw [h0] at hp1; cases hp1), fun i hii => ?_⟩
      rw [hp1] at hii
      obtain rfl := List.mem_singleton.1 hii
      unfold wpOp
      simp only [hi]
      simp only [wpOrd] at h
      have step : ∀ a' w', ((sink ops i = false → S w') ∧ wpOrd P ops Q S (pick l rest) a' w') →
          (sink ops i = false → S w') ∧ wpAnyS P ops Q S rest.length (listed.setIfInBounds i true) a' w' := fun a' w' h' =>
        ⟨h'.1, ord_sound he hin hsel hQ rest _ a' w' hp3 h'.2⟩
      split
      · rename_i hw
        rw [if_pos hw] at h
        exact .inl (Oper.wp_mono step h)
      · rename_i hw
        rw [if_neg hw] at h
        exact step _ _ h

/-- THE REGION, WALKED IN THE ORDER THAT IS GIVEN. -/
theorem wp_region_ord {id : Nat} {l : List Oper} {a : Act} {w : World} (S : World → Prop) (order : List (Nat × Bool)) (hm : P.follows .mixedOrders = true) (hp : ordPlan l.toArray order = true)
    (h : wpOrd P l.toArray (NoPanic Q) S (pick l order) a w.drew) : (Code.region id l.toArray true).wp P Q a w := by
  refine wp_region_noPanic ?_
  simp only [ordPlan, Bool.and_eq_true, beq_iff_eq] at hp
  obtain ⟨⟨⟨h0, h1⟩, h2⟩, h3⟩ := hp
  refine wp_region_any hm (any_of_S (S := S) _ _ _ _ ?_)
  have := ord_sound (P := P) (S := S) rfl h0 (Region.noSelect_spec h1) (fun _ _ _ _ _ h => h) order _ a w.drew h3 h
  rw [h2] at this
  exact this

theorem ord_quiet {n : Nat} {o : Oper} {rest : List (Nat × Oper × Bool)} {a : Act} {w : World} {v : Value} (hg : o.guard = none) (hy : ∀ w', S w' → (execOp a.eval o).run P w' = .ok (.value v) w') (hS : S w)
    (h : wpOrd P ops Q S rest (a.put o.dst v) w) : wpOrd P ops Q S ((n, o, true) :: rest) a w :=
  ⟨v, .inl ⟨by simp [Region.wanted, hg], hy⟩, hS, h⟩
/-- one whose guard says no -/
theorem ord_passed {n : Nat} {o : Oper} {rest : List (Nat × Oper × Bool)} {a : Act} {w : World} (hg : Region.wanted o (yielded ops a.tmps) = false) (hS : S w)
    (h : wpOrd P ops Q S rest (a.put o.dst undef) w) : wpOrd P ops Q S ((n, o, true) :: rest) a w :=
  ⟨undef, .inr ⟨hg, rfl⟩, hS, h⟩
/-- one whose guard says yes -/
theorem ord_guarded {n : Nat} {o : Oper} {rest : List (Nat × Oper × Bool)} {a : Act} {w : World} {v : Value} (hg : Region.wanted o (yielded ops a.tmps) = true) (hy : ∀ w', S w' → (execOp a.eval o).run P w' = .ok (.value v) w') (hS : S w)
    (h : wpOrd P ops Q S rest (a.put o.dst v) w) : wpOrd P ops Q S ((n, o, true) :: rest) a w :=
  ⟨v, .inl ⟨hg, hy⟩, hS, h⟩
theorem ord_loud {n : Nat} {o : Oper} {rest : List (Nat × Oper × Bool)} {a : Act} {w : World} (hg : Region.wanted o (yielded ops a.tmps) = true)
    (h : ∀ K : Act → World → Prop, (∀ a' w', (sink ops n = false → S w') → wpOrd P ops Q S rest a' w' → K a' w') → o.wp P a w K Q) : wpOrd P ops Q S ((n, o, false) :: rest) a w := by
  simp only [wpOrd]
  rw [if_pos hg]
  exact h _ fun a' w' h1 h2 => ⟨h1, h2⟩
theorem ord_nil {a : Act} {w : World} (h : Q .normal a w) : wpOrd P ops (NoPanic Q) S [] a w := NoPanic.normal h
end
end Go.Proofs.Ytghnieddokhagaa.Rc
namespace Go.Proofs.Ytghnieddokhagaa.Rd
open Go Rg

/-- leaf: all is done · take n: the quiet operation n is taken ahead · one n: n alone may come · fork n m: n, or m, may come -/
inductive Tree where
  | leaf
  | take (n : Nat) (t : Tree)
  | one (n : Nat) (t : Tree)
  | fork (n : Nat) (t : Tree) (m : Nat) (u : Tree)
section
variable {P : Program} {ops : Array Oper} {Q : Exit → Act → World → Prop} {S : World → Prop}
def stepLoud (P : Program) (ops : Array Oper) (Q : Exit → Act → World → Prop) (S : World → Prop) (n : Nat) (o : Oper) (K : Act → World → Prop) (a : Act) (w : World) : Prop :=
  if Region.wanted o (yielded ops a.tmps) then o.wp P a w (fun a' w' => (sink ops n = false → S w') ∧ K a' w') Q else ((sink ops n = false → S w) ∧ K (a.put o.dst undef) w)
def wpTree (P : Program) (l : List Oper) (Q : Exit → Act → World → Prop) (S : World → Prop) : Tree → Act → World → Prop
  | .leaf, a, w => Q .normal a w
  | .take n t, a, w => ∃ v, YieldsIf P l.toArray S (l.getD n default) v a ∧ S w ∧ wpTree P l Q S t (a.put (l.getD n default).dst v) w
  | .one n t, a, w => stepLoud P l.toArray Q S n (l.getD n default) (wpTree P l Q S t) a w
  | .fork n t m u, a, w => stepLoud P l.toArray Q S n (l.getD n default) (wpTree P l Q S t) a w ∧ stepLoud P l.toArray Q S m (l.getD m default) (wpTree P l Q S u) a w
def treeFrom (ops : Array Oper) : Nat → Array Bool → Tree → Bool
  | 0, listed, .leaf => (Region.ready .any ops listed).isEmpty
  | f + 1, listed, .take n t => decide (n < ops.size) && ((Region.ready .any ops listed).contains n && Region.free .any ops listed n && closed ops listed) && treeFrom ops f (listed.setIfInBounds n true) t
  | f + 1, listed, .one n t => decide (n < ops.size) && (Region.ready .any ops listed == [n]) && treeFrom ops f (listed.setIfInBounds n true) t
  | f + 1, listed, .fork n t m u => decide (n < ops.size) && decide (m < ops.size) && (Region.ready .any ops listed == [n, m]) && treeFrom ops f (listed.setIfInBounds n true) t && treeFrom ops f (listed.setIfInBounds m true) u
  | _, _, _ => false
def treePlan (ops : Array Oper) (t : Tree) : Bool := inside ops && Region.noSelect ops && treeFrom ops ops.size (Array.replicate ops.size false) t

theorem get_of {l : List Oper} {n : Nat} (h : n < l.toArray.size) : l.toArray[n]? = some (l.getD n default) := by
  have : n < l.length := by simpa using h
  simp [List.getElem?_eq_getElem this]
theorem loud_sound {l : List Oper} {n f : Nat} {t : Tree} {listed : Array Bool} {a : Act} {w : World} (hn : n < l.toArray.size)
    (ih : ∀ a' w', wpTree P l Q S t a' w' → Rg.wpAnyS P l.toArray Q S f (listed.setIfInBounds n true) a' w')
    (h : stepLoud P l.toArray Q S n (l.getD n default) (wpTree P l Q S t) a w) :
    wpOp P l.toArray Q n (fun a' w' => (sink l.toArray n = false → S w') ∧ Rg.wpAnyS P l.toArray Q S f (listed.setIfInBounds n true) a' w') a w := by
  unfold wpOp
  simp only [get_of hn]
  unfold stepLoud at h
  split
  · rename_i hw
    rw [if_pos hw] at h
    exact .inl (Oper.wp_mono (fun a' w' h' => ⟨h'.1, ih a' w' h'.2⟩) h)
  · rename_i hw
    rw [if_neg hw] at h
    exact ⟨h.1, ih _ _ h.2⟩
theorem tree_sound {l : List Oper} (hin : inside l.toArray = true) (hsel : ∀ (j : Nat) (o : Oper) cs b, l.toArray[j]? = some o → o.op ≠ .select cs b) (hQ : ∀ c a d v w, Q (.panic c) (Act.put a d v) w → Q (.panic c) a w) :
    ∀ (f : Nat) (t : Tree) (listed : Array Bool) (a : Act) (w : World), treeFrom l.toArray f listed t = true → wpTree P l Q S t a w → Rg.wpAnyS P l.toArray Q S f listed a w
  | 0, .leaf, listed, a, w, hp, h => by
    simp only [treeFrom, List.isEmpty_iff] at hp
    exact ⟨hp, h⟩
  | f + 1, .take n t, listed, a, w, hp, h => by
    simp only [treeFrom, Bool.and_eq_true, decide_eq_true_eq] at hp
    obtain ⟨⟨hlt, hp1⟩, hp3⟩ := hp
    obtain ⟨v, hy, hS, h⟩ := h
    have ih := tree_sound hin hsel hQ f t _ _ w hp3 h
    exact S_first (get_of hlt) hsel (fun c a w => hQ c a _ _ w) _ _ _ _ (Region.free_spec (get_of hlt) hp1.1.2) (by simpa using hp1.1.1) (closed_spec hp1.2 (inside_spec hin)) hy hS ih
  | f + 1, .one n t, listed, a, w, hp, h => by
    simp only [treeFrom, Bool.and_eq_true, decide_eq_true_eq, beq_iff_eq] at hp
    obtain ⟨⟨hlt, hp1⟩, hp3⟩ := hp
    refine ⟨fun h0 => (by rw [h0] at hp1; cases hp1), fun i hii => ?_⟩
    rw [hp1] at hii
    obtain rfl := List.mem_singleton.1 hii
    exact loud_sound hlt (fun a' w' h' => tree_sound hin hsel hQ f t _ a' w' hp3 h') h
  | f + 1, .fork n t m u, listed, a, w, hp, h => by
    simp only [treeFrom, Bool.and_eq_true, decide_eq_true_eq, beq_iff_eq] at hp
    obtain ⟨⟨⟨⟨hn, hm⟩, hp1⟩, hp3⟩, hp4⟩ := hp
    refine ⟨fun h0 => (by rw [h0] at hp1; cases hp1), fun i hii => ?_⟩
    rw [hp1] at hii
    rcases List.mem_cons.1 hii with rfl | hii
    · exact loud_sound hn (fun a' w' h' => tree_sound hin hsel hQ f t _ a' w' hp3 h') h.1
    · obtain rfl := List.mem_singleton.1 hii
      exact loud_sound hm (fun a' w' h' => tree_sound hin hsel hQ f u _ a' w' hp4 h') h.2
  | 0, .take _ _, _, _, _, hp, _ => by simp [treeFrom] at hp
  | 0, .one _ _, _, _, _, hp, _ => by simp [treeFrom] at hp
  | 0, .fork _ _ _ _, _, _, _, hp, _ => by simp [treeFrom] at hp
  | _ + 1, .leaf, _, _, _, hp, _ => by simp [treeFrom] at hp

/-- THE REGION, WALKED ALONG THE TREE. -/
theorem wp_region_tree {id : Nat} {l : List Oper} {a : Act} {w : World} (S : World → Prop) (t : Tree) (hm : P.follows .mixedOrders = true) (hp : treePlan l.toArray t = true)
    (h : wpTree P l (NoPanic Q) S t a w.drew) : (Code.region id l.toArray true).wp P Q a w := by
  refine wp_region_noPanic ?_
  simp only [treePlan, Bool.and_eq_true] at hp
  obtain ⟨⟨h0, h1⟩, h3⟩ := hp
  refine wp_region_any hm (any_of_S (S := S) _ _ _ _ ?_)
  exact tree_sound (P := P) (S := S) h0 (Region.noSelect_spec h1) (fun _ _ _ _ _ h => h) _ t _ a w.drew h3 h
theorem tree_quiet {l : List Oper} {n : Nat} {o : Oper} {t : Tree} {a : Act} {w : World} {v : Value} (ho : l.getD n default = o) (hg : o.guard = none) (hy : ∀ w', S w' → (execOp a.eval o).run P w' = .ok (.value v) w') (hS : S w)
    (h : wpTree P l Q S t (a.put o.dst v) w) : wpTree P l Q S (.take n t) a w := by
  subst ho
  exact ⟨v, .inl ⟨by unfold Region.wanted; rw [hg], hy⟩, hS, h⟩
theorem loud_of {l : List Oper} {n : Nat} {o : Oper} {t : Tree} {a : Act} {w : World} (ho : l.getD n default = o) (hg : Region.wanted o (yielded l.toArray a.tmps) = true)
    (h : ∀ K : Act → World → Prop, (∀ a' w', (sink l.toArray n = false → S w') → wpTree P l Q S t a' w' → K a' w') → o.wp P a w K Q) : stepLoud P l.toArray Q S n (l.getD n default) (wpTree P l Q S t) a w := by
  subst ho
  unfold stepLoud
  rw [if_pos hg]
  exact h _ fun a' w' h1 h2 => ⟨h1, h2⟩
theorem tree_one {l : List Oper} {n : Nat} {o : Oper} {t : Tree} {a : Act} {w : World} (ho : l.getD n default = o) (hg : Region.wanted o (yielded l.toArray a.tmps) = true)
    (h : ∀ K : Act → World → Prop, (∀ a' w', (sink l.toArray n = false → S w') → wpTree P l Q S t a' w' → K a' w') → o.wp P a w K Q) : wpTree P l Q S (.one n t) a w := loud_of ho hg h
theorem tree_fork {l : List Oper} {n m : Nat} {o o' : Oper} {t u : Tree} {a : Act} {w : World} (ho : l.getD n default = o) (hg : Region.wanted o (yielded l.toArray a.tmps) = true) (ho' : l.getD m default = o') (hg' : Region.wanted o' (yielded l.toArray a.tmps) = true)
    (h : ∀ K : Act → World → Prop, (∀ a' w', (sink l.toArray n = false → S w') → wpTree P l Q S t a' w' → K a' w') → o.wp P a w K Q)
    (h' : ∀ K : Act → World → Prop, (∀ a' w', (sink l.toArray m = false → S w') → wpTree P l Q S u a' w' → K a' w') → o'.wp P a w K Q) : wpTree P l Q S (.fork n t m u) a w :=
  ⟨loud_of ho hg h, loud_of ho' hg' h'⟩
theorem tree_leaf {l : List Oper} {a : Act} {w : World} (h : Q .normal a w) : wpTree P l (NoPanic Q) S .leaf a w := NoPanic.normal h
end
end Go.Proofs.Ytghnieddokhagaa.Rd
namespace Go.Proofs.Ytghnieddokhagaa.Rk
open Go Rg Rd
section
variable {P : Program} {Q : Exit → Act → World → Prop} {S : World → Prop}
theorem tree_quiet {l : List Oper} {n : Nat} {o : Oper} {t : Tree} {a : Act} {w : World} {v : Value} (ho : l.getD n default = o) (hg : o.guard = none) (hy : ∀ w', S w' → (execOp a.eval o).run P w' = .ok (.value v) w') (hS : S w)
    (h : wpTree P l Q S t (a.put o.dst v) w) : wpTree P l Q S (.take n t) a w := Rd.tree_quiet ho hg hy hS h
theorem tree_one {l : List Oper} {n : Nat} {o : Oper} {t : Tree} {a : Act} {w : World} (ho : l.getD n default = o) (hg : o.guard = none)
    (h : ∀ K : Act → World → Prop, (∀ a' w', (sink l.toArray n = false → S w') → wpTree P l Q S t a' w' → K a' w') → o.wp P a w K Q) : wpTree P l Q S (.one n t) a w := Rd.tree_one ho (by unfold Region.wanted; rw [hg]) h
theorem tree_fork {l : List Oper} {n m : Nat} {o o' : Oper} {t u : Tree} {a : Act} {w : World} (ho : l.getD n default = o) (hg : o.guard = none) (ho' : l.getD m default = o') (hg' : o'.guard = none)
    (h : ∀ K : Act → World → Prop, (∀ a' w', (sink l.toArray n = false → S w') → wpTree P l Q S t a' w' → K a' w') → o.wp P a w K Q)
    (h' : ∀ K : Act → World → Prop, (∀ a' w', (sink l.toArray m = false → S w') → wpTree P l Q S u a' w' → K a' w') → o'.wp P a w K Q) : wpTree P l Q S (.fork n t m u) a w :=
  Rd.tree_fork ho (by unfold Region.wanted; rw [hg]) ho' (by unfold Region.wanted; rw [hg']) h h'
end
end Go.Proofs.Ytghnieddokhagaa.Rk
namespace Go.Proofs.Ytghnieddokhagaa.Kg
open Go Go.RowKit Kt

/-- but the blocks of S, all that was there is as it was -/
structure Oth (S : Nat → Prop) (A B : World) : Prop where
  os : B.os = A.os
  tape : B.tape = A.tape
  output : B.output = A.output
  size : A.heap.size ≤ B.heap.size
  block : ∀ k, k < A.heap.size → ¬ S k → B.heap[k]? = A.heap[k]?
section
variable {S T : Nat → Prop} {A B C : World}
theorem Oth.refl (S : Nat → Prop) (A : World) : Oth S A A := ⟨rfl, rfl, rfl, Nat.le_refl _, fun _ _ _ => rfl⟩
theorem Oth.trans (h : Oth S A B) (k : Oth T B C) (hi : ∀ i, i < A.heap.size → T i → S i) : Oth S A C :=
  ⟨k.os.trans h.os, k.tape.trans h.tape, k.output.trans h.output, Nat.le_trans h.size k.size, fun i hl hn => (k.block i (Nat.lt_of_lt_of_le hl h.size) fun ht => hn (hi i hl ht)).trans (h.block i hl hn)⟩
theorem Oth.mono (h : Oth S A B) (hi : ∀ i, i < A.heap.size → S i → T i) : Oth T A B := ⟨h.os, h.tape, h.output, h.size, fun i hl hn => h.block i hl fun hs => hn (hi i hl hs)⟩
theorem Oth.of_below (S : Nat → Prop) (h : Below A.heap.size A B) : Oth S A B := ⟨h.os, h.tape, h.output, h.size, fun i hl _ => h.block i hl⟩
theorem Oth.of_grown {r : Option Nat} (h : A.grownBy B r) (hr : ∀ g, r = some g → S g) : Oth S A B :=
  ⟨h.os, h.tape, h.output, h.size, fun i hl hn => h.block i hl fun e => hn (hr i e.symm)⟩
theorem Oth.below (h : Oth S A B) {n : Nat} {w0 : World} (hb : Below n w0 A) (hn : n ≤ A.heap.size) (hS : ∀ k, k < n → ¬ S k) : Below n w0 B :=
  ⟨h.os.trans hb.os, h.tape.trans hb.tape, h.output.trans hb.output, Nat.le_trans hb.size h.size, fun k hk => (h.block k (Nat.lt_of_lt_of_le hk hn) (hS k hk)).trans (hb.block k hk)⟩
theorem Oth.put (h : Oth S A B) {g i : Nat} (hg : S g ∨ A.heap.size ≤ g) (u : Value) : Oth S A (B.setCell ⟨g, i, none⟩ u) :=
  ⟨h.os, h.tape, h.output, by simpa [World.setCell] using h.size, fun k hk hn => (Below.heap_setCell B ⟨g, i, none⟩ u k (fun e => by
    subst e
    rcases hg with hg | hg
    · exact hn hg
    · omega)).trans (h.block k hk hn)⟩
theorem Oth.drew (h : Oth S A B) : Oth S A B.drew := ⟨h.os, h.tape, h.output, h.size, h.block⟩
theorem Oth.drewN (h : Oth S A B) (n : Nat) : Oth S A (B.drewN n) := ⟨h.os, h.tape, h.output, h.size, h.block⟩
theorem Oth.alloc (h : Oth S A B) (o : Obj) : Oth S A (B.alloc o) :=
  ⟨h.os, h.tape, h.output, Nat.le_trans h.size (by simp), fun k hk hn => (Below.heap_alloc B o k (Nat.lt_of_lt_of_le hk h.size)).trans (h.block k hk hn)⟩
theorem Oth.row {g : Nat} {t : TypeId} {cs : List Value} (h : Oth S A B) (hr : Row A g t cs) (hg : ¬ S g) : Row B g t cs := (h.block g hr.lt hg).trans hr
theorem grown_two {r : Option Nat} (h : A.grownBy B r) (k : B.grownBy C r) : A.grownBy C r :=
  ⟨k.os.trans h.os, k.tape.trans h.tape, k.output.trans h.output, Nat.le_trans h.size k.size, fun i hi hne => (k.block i (Nat.lt_of_lt_of_le hi h.size) hne).trans (h.block i hi hne)⟩
end
end Go.Proofs.Ytghnieddokhagaa.Kg
namespace Go.Proofs.Ytghnieddokhagaa.Kf
open Go

def findB (n : Nat) : Code → Option Code
  | .seq a b => (findB n a).or (findB n b)
  | .block m b => if m = n then some (.block m b) else findB n b
  | .loop b => findB n b
  | .cond _ a b => (findB n a).or (findB n b)
  | _ => none
def findR (n : Nat) : Code → Option Code
  | .seq a b => (findR n a).or (findR n b)
  | .block _ b => findR n b
  | .loop b => findR n b
  | .cond _ a b => (findR n a).or (findR n b)
  | .region m ops dr => if m = n then some (.region m ops dr) else none
  | _ => none
theorem wp_last {P : Program} {c : Code} {Q : Exit → Act → World → Prop} {a : Act} {w : World} (h : Code.wp P c (Exit.then (fun a w => Q .normal a w) Q) a w) : Code.wp P c Q a w :=
  Code.wp_mono (fun e _ _ h => by cases e <;> exact h) h
end Go.Proofs.Ytghnieddokhagaa.Kf
