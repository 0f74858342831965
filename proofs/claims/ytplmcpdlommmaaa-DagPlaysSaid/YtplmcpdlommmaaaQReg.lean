/-
  A region that draws its order, walked in the text's order: what only reads, under a condition S on the world, may come whenever it likes; S is shown anew behind each operation that writes, but behind one that waits for all others.
-/
import Derived.Test.YtplmcpdlommmaaaKit
import Derived.OrdersHeld
import Derived.Tactics
import Derived.Deep.MidRow
import Derived.Deep.RegionHeld3
namespace Go.Proofs.Ytplmcpdlommmaaa.Rg
open Go

section
variable {P : Program} {ops : Array Oper} {Q : Exit → Act → World → Prop} {S : World → Prop}

/-- does operation j wait for k? -/
def waits (ops : Array Oper) (j k : Nat) : Bool := ((ops[j]?).map fun o => o.after.any fun e => Region.binds .any e && e.on == k).getD false
/-- does operation j wait for all others, or for one that does? -/
def sink (ops : Array Oper) (j : Nat) : Bool :=
  (List.range ops.size).all fun k => k == j || waits ops j k || (List.range ops.size).any fun i => waits ops j i && waits ops i k
/-- is what the listed ones wait for listed too? -/
def closed (ops : Array Oper) (listed : Array Bool) : Bool := (List.range ops.size).all fun j => !listed.getD j false || (List.range ops.size).all fun k => !waits ops j k || listed.getD k false
def Closed (ops : Array Oper) (listed : Array Bool) : Prop := ∀ j k, waits ops j k = true → listed.getD j false = true → listed.getD k false = true
theorem waits_spec {j k : Nat} {oj : Oper} (hj : ops[j]? = some oj) (h : waits ops j k = true) : ∃ e ∈ oj.after, Region.binds .any e = true ∧ e.on = k := by
  simp only [waits, hj, Option.map_some, Option.getD_some] at h
  obtain ⟨e, he, hb⟩ := Array.any_eq_true'.1 h
  simp only [Bool.and_eq_true, beq_iff_eq] at hb
  exact ⟨e, he, hb.1, hb.2⟩
theorem waits_lt {j k : Nat} (h : waits ops j k = true) : j < ops.size := by
  rcases Nat.lt_or_ge j ops.size with h' | h'
  · exact h'
  · simp [waits, Array.getElem?_eq_none h'] at h
theorem closed_spec {listed : Array Bool} (h : closed ops listed = true) (hk : ∀ j k, waits ops j k = true → k < ops.size) : Closed ops listed := by
  intro j k hw hl
  have h1 := List.all_eq_true.1 h j (List.mem_range.2 (waits_lt hw))
  simp only [hl, Bool.not_true, Bool.false_or] at h1
  have h2 := List.all_eq_true.1 h1 k (List.mem_range.2 (hk j k hw))
  simpa [hw] using h2
theorem closed_set {listed : Array Bool} {j : Nat} (h : Closed ops listed) (hj : j ∈ Region.ready .any ops listed) : Closed ops (listed.setIfInBounds j true) := by
  intro a b hw hl
  obtain ⟨_, oj, hoj, hall⟩ := mem_ready.1 hj
  by_cases e : j = a
  · subst e
    obtain ⟨e, he, hb, rfl⟩ := waits_spec hoj hw
    exact getD_set_true (hall e he hb)
  · rw [getD_set_ne false e] at hl
    exact getD_set_true (h a b hw hl)
theorem sink_spec {j k : Nat} {listed : Array Bool} (hc : Closed ops listed) (hj : j ∈ Region.ready .any ops listed) (h : sink ops j = true) (hk : k < ops.size) (hne : k ≠ j) : listed.getD k false = true := by
  obtain ⟨_, oj, hoj, hall⟩ := mem_ready.1 hj
  have h1 := List.all_eq_true.1 h k (List.mem_range.2 hk)
  simp only [Bool.or_eq_true, beq_iff_eq] at h1
  rcases h1 with (h1 | h1) | h1
  · exact absurd h1 hne
  · obtain ⟨e, he, hb, rfl⟩ := waits_spec hoj h1
    exact hall e he hb
  · obtain ⟨i, _, hi⟩ := List.any_eq_true.1 h1
    simp only [Bool.and_eq_true] at hi
    obtain ⟨e, he, hb, rfl⟩ := waits_spec hoj hi.1
    exact hc _ _ hi.2 (hall e he hb)

def wpAnyS (P : Program) (ops : Array Oper) (Q : Exit → Act → World → Prop) (S : World → Prop) : Nat → Array Bool → Act → World → Prop
  | 0, listed, a, w => Region.ready .any ops listed = [] ∧ Q .normal a w
  | fuel + 1, listed, a, w =>
    (Region.ready .any ops listed = [] → Q .normal a w) ∧
    ∀ i ∈ Region.ready .any ops listed, wpOp P ops Q i (fun a' w' => (sink ops i = false → S w') ∧ wpAnyS P ops Q S fuel (listed.setIfInBounds i true) a' w') a w

theorem any_of_S : ∀ (fuel : Nat) (listed : Array Bool) (a : Act) (w : World), wpAnyS P ops Q S fuel listed a w → wpAny P .any ops Q fuel listed a w
  | 0, _, _, _, h => h
  | fuel + 1, _, _, _, h => ⟨h.1, fun i hi => wpOp_mono (fun a' w' h' => any_of_S fuel _ a' w' h'.2) (h.2 i hi)⟩

theorem S_first {i : Nat} {oi : Oper} {v : Value} (hi : ops[i]? = some oi) (hsel : ∀ (j : Nat) (o : Oper) cs b, ops[j]? = some o → o.op ≠ .select cs b)
    (hQ : ∀ c a w, Q (.panic c) (a.put oi.dst v) w → Q (.panic c) a w) :
    ∀ (fuel : Nat) (listed : Array Bool) (a : Act) (w : World),
      (∀ j oj, ops[j]? = some oj → j ≠ i → listed.getD j true = false → (∀ e ∈ oj.after, Region.binds .any e = true → e.on ≠ i) → oi.apart ops oj = true) →
      i ∈ Region.ready .any ops listed → Closed ops listed → YieldsIf P ops S oi v a → S w →
      wpAnyS P ops Q S fuel (listed.setIfInBounds i true) (a.put oi.dst v) w → wpAnyS P ops Q S (fuel + 1) listed a w := by
  intro fuel
  induction fuel with
  | zero =>
    intro listed a w _ hr _ hy hS H
    refine ⟨fun h => (by rw [h] at hr; cases hr), fun j hj => ?_⟩
    by_cases hji : j = i
    · subst hji; exact hy.wpOp hi hS ⟨fun _ => hS, H⟩
    · have := ready_mono hj hji
      rw [H.1] at this
      cases this
  | succ fuel ih =>
    intro listed a w hfree hr hcl hy hS H
    refine ⟨fun h => (by rw [h] at hr; cases hr), fun j hj => ?_⟩
    by_cases hji : j = i
    · subst hji; exact hy.wpOp hi hS ⟨fun _ => hS, H⟩
    · have h1 := H.2 j (ready_mono hj hji)
      obtain ⟨hjun, oj, hoj, hall⟩ := mem_ready.1 hj
      have hnot : ∀ e ∈ oj.after, Region.binds .any e = true → e.on ≠ i := fun e he hb heq => by
        have h1 := hall e he hb
        have h0 := (mem_ready.1 hr).1
        rw [heq] at h1
        rcases Nat.lt_or_ge i listed.size with h' | h'
        · simp [h'] at h0 h1; rw [h0] at h1; cases h1
        · simp [Array.getElem?_eq_none h'] at h1
      have hsink : sink ops j = false := by
        cases hs : sink ops j with
        | false => rfl
        | true =>
          have h0 := (mem_ready.1 hr).1
          have h1 := sink_spec hcl hj hs (Array.getElem?_eq_some_iff.1 hi).1 (Ne.symm hji)
          rcases Nat.lt_or_ge i listed.size with h' | h'
          · simp [h'] at h0 h1; rw [h0] at h1; cases h1
          · simp [Array.getElem?_eq_none h'] at h1
      have h2 := wpOp_putIf hoj (hfree j oj hoj hji hjun hnot) (fun cs b => hsel i oi cs b hi) (fun cs b => hsel j oj cs b hoj) hQ hy h1
      have hfree' : ∀ k ok, ops[k]? = some ok → k ≠ i → (listed.setIfInBounds j true).getD k true = false →
          (∀ e ∈ ok.after, Region.binds .any e = true → e.on ≠ i) → oi.apart ops ok = true := fun k ok hk hki hun hno => by
        refine hfree k ok hk hki ?_ hno
        by_cases hjk : j = k
        · subst hjk; exact hjun
        · rw [getD_set_ne true hjk] at hun; exact hun
      refine wpOp_mono (fun a' w' h3 => ⟨fun _ => h3.2.1 hsink, ih (listed.setIfInBounds j true) a' w' hfree' (ready_mono hr (Ne.symm hji)) (closed_set hcl hj) h3.1 (h3.2.1 hsink) ?_⟩) h2
      rw [Array.setIfInBounds_comm _ _ hji]
      exact h3.2.2

/-- the first n of m are listed -/
def upTo (n m : Nat) : Array Bool := ((List.range m).map fun i => decide (i < n)).toArray

/-- the text's order: each operation with whether it only reads -/
def wpTxt (P : Program) (ops : Array Oper) (Q : Exit → Act → World → Prop) (S : World → Prop) : Nat → List (Oper × Bool) → Act → World → Prop
  | _, [], a, w => Q .normal a w
  | n, (o, true) :: rest, a, w => ∃ v, YieldsIf P ops S o v a ∧ S w ∧ wpTxt P ops Q S (n + 1) rest (a.put o.dst v) w
  | n, (o, false) :: rest, a, w => (if Region.wanted o (yielded ops a.tmps) then o.wp P a w (fun a' w' => (sink ops n = false → S w') ∧ wpTxt P ops Q S (n + 1) rest a' w') Q else ((sink ops n = false → S w) ∧ wpTxt P ops Q S (n + 1) rest (a.put o.dst undef) w))

/-- may the operations be walked so? (closed: asked of the kernel) -/
def planFrom (ops : Array Oper) : Nat → List Bool → Bool
  | n, [] => n == ops.size && (Region.ready .any ops (upTo n ops.size)).isEmpty
  | n, q :: rest => (if q then (Region.ready .any ops (upTo n ops.size)).contains n && Region.free .any ops (upTo n ops.size) n && closed ops (upTo n ops.size) else Region.ready .any ops (upTo n ops.size) == [n]) &&
      (upTo n ops.size).setIfInBounds n true == upTo (n + 1) ops.size && planFrom ops (n + 1) rest
def inside (ops : Array Oper) : Bool := ops.all fun o => o.after.all fun e => e.on < ops.size
theorem inside_spec (h : inside ops = true) (j k : Nat) (hw : waits ops j k = true) : k < ops.size := by
  have hj : ops[j]? = some (ops[j]'(waits_lt hw)) := Array.getElem?_eq_getElem _
  obtain ⟨e, he, _, rfl⟩ := waits_spec hj hw
  have h1 := Array.all_eq_true_iff_forall_mem.1 h _ (Array.getElem_mem (waits_lt hw))
  have h2 := Array.all_eq_true_iff_forall_mem.1 h1 e he
  simpa using h2
def plan (ops : Array Oper) (flags : List Bool) : Bool := inside ops && Region.noSelect ops && flags.length == ops.size && planFrom ops 0 flags

theorem txt_sound (hin : inside ops = true) (hsel : ∀ (j : Nat) (o : Oper) cs b, ops[j]? = some o → o.op ≠ .select cs b) (hQ : ∀ c a d v w, Q (.panic c) (Act.put a d v) w → Q (.panic c) a w) :
    ∀ (flags : List Bool) (n : Nat) (a : Act) (w : World), n + flags.length = ops.size → planFrom ops n flags = true →
      wpTxt P ops Q S n ((ops.toList.drop n).zip flags) a w → wpAnyS P ops Q S flags.length (upTo n ops.size) a w
  | [], n, a, w, hn, hp, h => by
    simp only [planFrom, Bool.and_eq_true, beq_iff_eq, List.isEmpty_iff] at hp
    have e : ops.toList.drop n = [] := List.drop_of_length_le (by simp at hn ⊢; omega)
    rw [e] at h
    exact ⟨hp.2, h⟩
  | q :: rest, n, a, w, hn, hp, h => by
    simp only [planFrom, Bool.and_eq_true, beq_iff_eq] at hp
    obtain ⟨⟨hp1, hp2⟩, hp3⟩ := hp
    have hlt : n < ops.size := by simp at hn; omega
    have hi : ops[n]? = some ops[n] := Array.getElem?_eq_getElem hlt
    have e : ops.toList.drop n = ops[n] :: ops.toList.drop (n + 1) := by
      rw [List.drop_eq_getElem_cons (by simpa using hlt)]; simp
    rw [e, List.zip_cons_cons] at h
    cases q with
    | true =>
      simp only [if_true, Bool.and_eq_true] at hp1
      obtain ⟨v, hy, hS, h⟩ := h
      have ih := txt_sound hin hsel hQ rest (n + 1) _ w (by simp at hn; omega) hp3 h
      rw [← hp2] at ih
      exact S_first hi hsel (fun c a w => hQ c a _ _ w) _ _ _ _ (Region.free_spec hi hp1.1.2) (by simpa using hp1.1.1) (closed_spec hp1.2 (inside_spec hin)) hy hS ih
    | false =>
      simp only [Bool.false_eq_true, if_false, beq_iff_eq] at hp1
      have hr : Region.ready .any ops (upTo n ops.size) = [n] := by simpa using hp1
      refine ⟨fun h0 => (by rw [h0] at hr; cases hr), fun i hii => ?_⟩
      rw [hr] at hii
      obtain rfl := List.mem_singleton.1 hii
      unfold wpOp
      simp only [hi]
      simp only [wpTxt] at h
      have step : ∀ a' w', ((sink ops i = false → S w') ∧ wpTxt P ops Q S (i + 1) ((ops.toList.drop (i + 1)).zip rest) a' w') →
          (sink ops i = false → S w') ∧ wpAnyS P ops Q S rest.length ((upTo i ops.size).setIfInBounds i true) a' w' := fun a' w' h' =>
        ⟨h'.1, by rw [hp2]; exact txt_sound hin hsel hQ rest (i + 1) a' w' (by simp at hn; omega) hp3 h'.2⟩
      split
      · rename_i hw
        rw [if_pos hw] at h
        exact .inl (Oper.wp_mono step h)
      · rename_i hw
        rw [if_neg hw] at h
        exact step _ _ h

theorem upTo_zero (m : Nat) : upTo 0 m = Array.replicate m false := by
  apply Array.ext' ; simp [upTo, List.map_const']

/-- THE REGION, WALKED IN THE TEXT's ORDER. -/
theorem wp_region_txt {id : Nat} {l : List Oper} {a : Act} {w : World} (S : World → Prop) (flags : List Bool) (hm : P.follows .mixedOrders = true) (hp : plan l.toArray flags = true)
    (h : wpTxt P l.toArray (NoPanic Q) S 0 (l.zip flags) a w.drew) : (Code.region id l.toArray true).wp P Q a w := by
  refine wp_region_noPanic ?_
  simp only [plan, Bool.and_eq_true, beq_iff_eq] at hp
  obtain ⟨⟨⟨h0, h1⟩, h2⟩, h3⟩ := hp
  refine wp_region_any hm (any_of_S (S := S) _ _ _ _ ?_)
  have := txt_sound (P := P) (S := S) h0 (Region.noSelect_spec h1) (fun _ _ _ _ _ h => h) flags 0 a w.drew (by omega) h3 (by simpa using h)
  rw [upTo_zero, h2] at this
  exact this

/-- one that only reads: its value is found by running it in whatever world meets S -/
theorem txt_quiet {n : Nat} {o : Oper} {rest : List (Oper × Bool)} {a : Act} {w : World} {v : Value} (hg : o.guard = none) (hy : ∀ w', S w' → (execOp a.eval o).run P w' = .ok (.value v) w') (hS : S w)
    (h : wpTxt P ops Q S (n + 1) rest (a.put o.dst v) w) : wpTxt P ops Q S n ((o, true) :: rest) a w :=
  ⟨v, .inl ⟨by simp [Region.wanted, hg], hy⟩, hS, h⟩
/-- one that is carried out here -/
theorem txt_loud {n : Nat} {o : Oper} {rest : List (Oper × Bool)} {a : Act} {w : World} (hg : o.guard = none)
    (h : ∀ K : Act → World → Prop, (∀ a' w', (sink ops n = false → S w') → wpTxt P ops Q S (n + 1) rest a' w' → K a' w') → o.wp P a w K Q) : wpTxt P ops Q S n ((o, false) :: rest) a w := by
  simp only [wpTxt]
  rw [if_pos (by simp [Region.wanted, hg])]
  exact h _ fun a' w' h1 h2 => ⟨h1, h2⟩
theorem txt_load {n : Nat} {o : Oper} {rest : List (Oper × Bool)} {a : Act} {w : World} (hg : o.guard = none) (ty : TypeId) (x : Operand) (ho : o.op = .load ty x)
    (b k : Nat) (hx : a.eval x = .pointer (some ⟨b, k, none⟩)) (cs : List Value) (d : TypeDesc) (hc : ∀ w', S w' → w'.rangeAt b k cs)
    (hu : P.underlying ty = some d) (hd : d.isRow = true) (hi : (P.info? ty).map (·.size) = some cs.length) (hS : S w)
    (h : wpTxt P ops Q S (n + 1) rest (a.put o.dst (.agg cs.toArray)) w) : wpTxt P ops Q S n ((o, true) :: rest) a w :=
  txt_quiet hg (fun w' hw' => by
    unfold execOp
    simp only [ho, hx, Instr.loadAt, Instr.sureAddr, Sem.run_bind, Sem.run_pure, Result.andThen_ok, run_loadVar_mid w' b k ty cs d (hc w' hw') hu hd hi]) hS h
theorem txt_store {n : Nat} {o : Oper} {rest : List (Oper × Bool)} {a : Act} {w : World} (hg : o.guard = none) (ty : TypeId) (x y : Operand) (ho : o.op = .store ty x y)
    (b k : Nat) (cells : Array Value) (hx : a.eval x = .pointer (some ⟨b, k, none⟩)) (hy : a.eval y = .agg cells)
    (ht : w.there b k cells.size) (hi : (P.info? ty).map (·.size) = some cells.size) (h1 : cells.all (·.oneCell') = true)
    (h : (sink ops n = false → S (w.setCells b k cells.toList)) ∧ wpTxt P ops Q S (n + 1) rest (a.put o.dst undef) (w.setCells b k cells.toList)) : wpTxt P ops Q S n ((o, false) :: rest) a w :=
  txt_loud hg fun _ hK => wp_store_mid ty x y ho b k cells hx hy ht hi h1 (hK _ _ h.1 h.2)
open Kt Go.RowKit in
theorem txt_push {n : Nat} {o : Oper} {rest : List (Oper × Bool)} {a : Act} {w : World} {cs : Array Value} {E : TypeId} (W : World) (hW : w = W.alloc (.cells cs E))
    (hgd : o.guard = none) (s x : Operand) (t : TypeId) (ho : o.op = .call { callee := .builtin .append, args := #[s, x], argTypes := #[t, t] })
    (ht : P.underlying t = some (.slice E)) (hi : (P.info? E).map (fun i => (i.zero, i.size, i.bytes)) = some (some (.int .u8 0), 1, 1))
    (B : Nat) (w0 : World) (v : Value) (l news : List UInt8) (m c : Nat) (hs : a.eval s = v) (hx : a.eval x = .slice (some ⟨W.heap.size, 0, none⟩) m c)
    (hown : Own W B E v l) (hc : cs = (u8s news).toArray) (hm : m = news.length) (hlen : l.length + news.length ≤ 70368744177664) (hb : Below B w0 W) (hbase : B ≤ W.heap.size)
    (h : ∀ v' w', Own w' B E v' (l ++ news) → Below B w0 w' → W.grownBy w' v.ownBlock → (sink ops n = false → S w') ∧ wpTxt P ops Q S (n + 1) rest (a.put o.dst v') w') : wpTxt P ops Q S n ((o, false) :: rest) a w := by
  subst hW
  exact txt_loud hgd fun K hK => wp_push s x t ho ht hi B w0 v l news m c hs hx hown hc hm hlen hb hbase fun v' w' h1 h2 h3 => hK _ _ (h v' w' h1 h2 h3).1 (h v' w' h1 h2 h3).2
theorem not_sink {n : Nat} {p : Prop} (hs : sink ops n = true) (h : sink ops n = false) : p := by rw [hs] at h; cases h
theorem txt_nil {n : Nat} {a : Act} {w : World} (h : Q .normal a w) : wpTxt P ops (NoPanic Q) S n [] a w := NoPanic.normal h
end
end Go.Proofs.Ytplmcpdlommmaaa.Rg
namespace Go.Proofs.Ytplmcpdlommmaaa.Rg
open Go

section
variable {P : Program} {ops : Array Oper} {Q : Exit → Act → World → Prop} {S : World → Prop}

def wpOrd (P : Program) (ops : Array Oper) (Q : Exit → Act → World → Prop) (S : World → Prop) : List (Nat × Oper × Bool) → Act → World → Prop
  | [], a, w => Q .normal a w
  | (_, o, true) :: rest, a, w => ∃ v, YieldsIf P ops S o v a ∧ S w ∧ wpOrd P ops Q S rest (a.put o.dst v) w
  | (n, o, false) :: rest, a, w => (if Region.wanted o (yielded ops a.tmps) then o.wp P a w (fun a' w' => (sink ops n = false → S w') ∧ wpOrd P ops Q S rest a' w') Q else ((sink ops n = false → S w) ∧ wpOrd P ops Q S rest (a.put o.dst undef) w))

def ordFrom (ops : Array Oper) : Array Bool → List (Nat × Bool) → Bool
  | listed, [] => (Region.ready .any ops listed).isEmpty
  | listed, (n, q) :: rest => decide (n < ops.size) && (if q then (Region.ready .any ops listed).contains n && Region.free .any ops listed n && closed ops listed else Region.ready .any ops listed == [n]) && ordFrom ops (listed.setIfInBounds n true) rest
def ordPlan (ops : Array Oper) (order : List (Nat × Bool)) : Bool := inside ops && Region.noSelect ops && order.length == ops.size && ordFrom ops (Array.replicate ops.size false) order
def pick (l : List Oper) (order : List (Nat × Bool)) : List (Nat × Oper × Bool) := order.map fun x => (x.1, l.getD x.1 default, x.2)

theorem ord_sound {l : List Oper} (he : ops = l.toArray) (hin : inside ops = true) (hsel : ∀ (j : Nat) (o : Oper) cs b, ops[j]? = some o → o.op ≠ .select cs b) (hQ : ∀ c a d v w, Q (.panic c) (Act.put a d v) w → Q (.panic c) a w) :
    ∀ (order : List (Nat × Bool)) (listed : Array Bool) (a : Act) (w : World), ordFrom ops listed order = true →
      wpOrd P ops Q S (pick l order) a w → wpAnyS P ops Q S order.length listed a w
  | [], listed, a, w, hp, h => by
    simp only [ordFrom, List.isEmpty_iff] at hp
    exact ⟨hp, h⟩
  | (n, q) :: rest, listed, a, w, hp, h => by
    simp only [ordFrom, Bool.and_eq_true, decide_eq_true_eq] at hp
    obtain ⟨⟨hlt, hp1⟩, hp3⟩ := hp
    have hi : ops[n]? = some (l.getD n default) := by
      subst he
      have : n < l.length := by simpa using hlt
      simp [List.getElem?_eq_getElem this]
    have e : pick l ((n, q) :: rest) = (n, l.getD n default, q) :: pick l rest := rfl
    rw [e] at h
    cases q with
    | true =>
      simp only [if_true, Bool.and_eq_true] at hp1
      obtain ⟨v, hy, hS, h⟩ := h
      have ih := ord_sound he hin hsel hQ rest _ _ w hp3 h
      exact S_first hi hsel (fun c a w => hQ c a _ _ w) _ _ _ _ (Region.free_spec hi hp1.1.2) (by simpa using hp1.1.1) (closed_spec hp1.2 (inside_spec hin)) hy hS ih
    | false =>
      simp only [Bool.false_eq_true, if_false, beq_iff_eq] at hp1
      refine ⟨fun h0 => (by rw [h0] at hp1; cases hp1), fun i hii => ?_⟩
      rw [hp1] at hii
      obtain rfl := List.mem_singleton.1 hii
      unfold wpOp
      simp only [hi]
      simp only [wpOrd] at h
      have step : ∀ a' w', ((sink ops i = false → S w') ∧ wpOrd P ops Q S (pick l rest) a' w') →
          (sink ops i = false → S w') ∧ wpAnyS P ops Q S rest.length (listed.setIfInBounds i true) a' w' := fun a' w' h' =>
        ⟨h'.1, ord_sound he hin hsel hQ rest _ a' w' hp3 h'.2⟩
      split
      · rename_i hw
        rw [if_pos hw] at h
        exact .inl (Oper.wp_mono step h)
      · rename_i hw
        rw [if_neg hw] at h
        exact step _ _ h

/-- THE REGION, WALKED IN THE ORDER THAT IS GIVEN. -/
theorem wp_region_ord {id : Nat} {l : List Oper} {a : Act} {w : World} (S : World → Prop) (order : List (Nat × Bool)) (hm : P.follows .mixedOrders = true) (hp : ordPlan l.toArray order = true)
    (h : wpOrd P l.toArray (NoPanic Q) S (pick l order) a w.drew) : (Code.region id l.toArray true).wp P Q a w := by
  refine wp_region_noPanic ?_
  simp only [ordPlan, Bool.and_eq_true, beq_iff_eq] at hp
  obtain ⟨⟨⟨h0, h1⟩, h2⟩, h3⟩ := hp
  refine wp_region_any hm (any_of_S (S := S) _ _ _ _ ?_)
  have := ord_sound (P := P) (S := S) rfl h0 (Region.noSelect_spec h1) (fun _ _ _ _ _ h => h) order _ a w.drew h3 h
  rw [h2] at this
  exact this

theorem ord_quiet {n : Nat} {o : Oper} {rest : List (Nat × Oper × Bool)} {a : Act} {w : World} {v : Value} (hg : o.guard = none) (hy : ∀ w', S w' → (execOp a.eval o).run P w' = .ok (.value v) w') (hS : S w)
    (h : wpOrd P ops Q S rest (a.put o.dst v) w) : wpOrd P ops Q S ((n, o, true) :: rest) a w :=
  ⟨v, .inl ⟨by simp [Region.wanted, hg], hy⟩, hS, h⟩
/-- one whose guard says no -/
theorem ord_passed {n : Nat} {o : Oper} {rest : List (Nat × Oper × Bool)} {a : Act} {w : World} (hg : Region.wanted o (yielded ops a.tmps) = false) (hS : S w)
    (h : wpOrd P ops Q S rest (a.put o.dst undef) w) : wpOrd P ops Q S ((n, o, true) :: rest) a w :=
  ⟨undef, .inr ⟨hg, rfl⟩, hS, h⟩
/-- one whose guard says yes -/
theorem ord_guarded {n : Nat} {o : Oper} {rest : List (Nat × Oper × Bool)} {a : Act} {w : World} {v : Value} (hg : Region.wanted o (yielded ops a.tmps) = true) (hy : ∀ w', S w' → (execOp a.eval o).run P w' = .ok (.value v) w') (hS : S w)
    (h : wpOrd P ops Q S rest (a.put o.dst v) w) : wpOrd P ops Q S ((n, o, true) :: rest) a w :=
  ⟨v, .inl ⟨hg, hy⟩, hS, h⟩
theorem ord_loud {n : Nat} {o : Oper} {rest : List (Nat × Oper × Bool)} {a : Act} {w : World} (hg : Region.wanted o (yielded ops a.tmps) = true)
    (h : ∀ K : Act → World → Prop, (∀ a' w', (sink ops n = false → S w') → wpOrd P ops Q S rest a' w' → K a' w') → o.wp P a w K Q) : wpOrd P ops Q S ((n, o, false) :: rest) a w := by
  simp only [wpOrd]
  rw [if_pos hg]
  exact h _ fun a' w' h1 h2 => ⟨h1, h2⟩
open Kt Go.RowKit in
theorem ord_push {n : Nat} {o : Oper} {rest : List (Nat × Oper × Bool)} {a : Act} {w : World} {cs : Array Value} {E : TypeId} (W : World) (hW : w = W.alloc (.cells cs E))
    (hgd : o.guard = none) (s x : Operand) (t : TypeId) (ho : o.op = .call { callee := .builtin .append, args := #[s, x], argTypes := #[t, t] })
    (ht : P.underlying t = some (.slice E)) (hi : (P.info? E).map (fun i => (i.zero, i.size, i.bytes)) = some (some (.int .u8 0), 1, 1))
    (B : Nat) (w0 : World) (v : Value) (l news : List UInt8) (m c : Nat) (hs : a.eval s = v) (hx : a.eval x = .slice (some ⟨W.heap.size, 0, none⟩) m c)
    (hown : Own W B E v l) (hc : cs = (u8s news).toArray) (hm : m = news.length) (hlen : l.length + news.length ≤ 70368744177664) (hb : Below B w0 W) (hbase : B ≤ W.heap.size)
    (h : ∀ v' w', Own w' B E v' (l ++ news) → Below B w0 w' → W.grownBy w' v.ownBlock → (sink ops n = false → S w') ∧ wpOrd P ops Q S rest (a.put o.dst v') w') : wpOrd P ops Q S ((n, o, false) :: rest) a w := by
  subst hW
  exact ord_loud (by simp [Region.wanted, hgd]) fun K hK => wp_push s x t ho ht hi B w0 v l news m c hs hx hown hc hm hlen hb hbase fun v' w' h1 h2 h3 => hK _ _ (h v' w' h1 h2 h3).1 (h v' w' h1 h2 h3).2
theorem ord_nil {a : Act} {w : World} (h : Q .normal a w) : wpOrd P ops (NoPanic Q) S [] a w := NoPanic.normal h
end
end Go.Proofs.Ytplmcpdlommmaaa.Rg
