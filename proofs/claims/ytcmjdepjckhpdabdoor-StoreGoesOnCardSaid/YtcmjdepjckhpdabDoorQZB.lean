/-
  What the store's laws say, on lists alone.
-/
import Derived.Test.YtcmjdepjckhpdabDoorZA
import Derived.Test.YtcmjdepjckhpdabDoorKit
import Derived.OrdersHeld
import Derived.Tactics
import Derived.Deep.MidRow
import Derived.Deep.RegionHeld3
import Derived.Test.YtcmjdepjckhpdabDoorQWS
import Derived.WalkLawsBesides
import Derived.Test.YtcmjdepjckhpdabDoorChecked
import Derived.Lib.AppendZerosOnto
import Derived.Test.YtcmjdepjckhpdabDoorQSha
namespace Go.Proofs.YtcmjdepjckhpdabDoor.So
open Wr Sha

def run (x : Ss) (l : List Bs) : Ss := l.foldl (fun x b => (put x b).1) x
theorem run_snoc (x : Ss) (l : List Bs) (b : Bs) : run x (l ++ [b]) = (put (run x l) b).1 := by simp [run]
theorem run_take (x : Ss) {l : List Bs} {k : Nat} {b : Bs} (h : l[k]? = some b) : run x (l.take (k + 1)) = (put (run x (l.take k)) b).1 := by
  rw [← run_snoc, List.take_add_one, h]; rfl
theorem Good.run {x : Ss} (h : Good x) : ∀ l : List Bs, Good (run x l) := by
  intro l
  induction l generalizing x with
  | nil => exact h
  | cons b r ih => exact ih (h.put b)
theorem Good.new {s : Dk.St} (hf : s.fit) (hk : s.k = []) : Good ⟨s, []⟩ := ⟨hf, fun b hb => (by cases hb), by simp, [], Torn.nil, by rw [hk]; rfl, fun _ => rfl⟩
/-- what a store's disk is opened as -/
theorem Good.opened {x : Ss} (h : Good x) : op [] x.s.k 0 = (0, x.L, (recs x.L).length) := by
  obtain ⟨_, h2, h3, t, h4, h5, _⟩ := h
  rw [h5]
  exact op_whole h2 h3 h4
theorem Good.kept {x : Ss} (h : Good x) : x.s.k.take (recs x.L).length = recs x.L := by
  obtain ⟨_, _, _, t, _, h5, _⟩ := h
  rw [h5, List.take_left]
theorem Good.alive {x : Ss} (h : Good x) (hd : x.s.dead = false) : x.s.k = recs x.L := by
  obtain ⟨_, _, _, t, _, h5, h6⟩ := h
  rw [h5, h6 hd, List.append_nil]
/-- a disk without a fuse, alive -/
def Plain (s : Dk.St) : Prop := s.dead = false ∧ s.fuse = -1
theorem Plain.put {s : Dk.St} (h : Plain s) (b : Bs) : Plain (Dk.put s b).1 ∧ ((Dk.put s b).2 = 0 ∨ (Dk.put s b).2 = 8 ∧ (Dk.put s b).1 = s) := by
  obtain ⟨h1, h2⟩ := h
  unfold Dk.put
  rw [if_neg (by rw [h1]; decide)]
  split
  · exact ⟨⟨h1, h2⟩, .inr ⟨rfl, rfl⟩⟩
  · rw [if_neg (fun x => x.1 h2)]
    refine ⟨⟨rfl, ?_⟩, .inl rfl⟩
    simp
theorem Plain.so {x : Ss} (h : Plain x.s) (b : Bs) : Plain (So.put x b).1.s := by
  unfold So.put
  split
  · exact h
  · split
    · exact h
    · split <;> exact (h.put (record b)).1
theorem Plain.run {x : Ss} (h : Plain x.s) : ∀ l : List Bs, Plain (So.run x l).s := by
  intro l
  induction l generalizing x with
  | nil => exact h
  | cons b r ih => exact ih (h.so b)
/-- P14.4: put again nothing is done, and its id is told -/
theorem put_again {x : Ss} {b : Bs} (hl : b.length ≤ 131072) (h : sha b ∈ x.L.map sha) : put x b = (x, sha b, 0) := by
  unfold put
  rw [if_neg (by omega), if_pos h]
/-- what was told as kept is there -/
theorem put_there {x : Ss} {b : Bs} (h : (put x b).2.2 = 0) : (put x b).2.1 = sha b ∧ sha b ∈ (put x b).1.L.map sha := by
  unfold put at h ⊢
  split
  · next hl => rw [if_pos hl] at h; cases h
  · next hl =>
    rw [if_neg hl] at h
    split
    · next hm => exact ⟨rfl, hm⟩
    · next hm =>
      rw [if_neg hm] at h
      split
      · exact ⟨rfl, by simp⟩
      · next he => rw [if_neg he] at h; exact absurd h he
theorem put_grows {x : Ss} {b : Bs} : (put x b).1.L = x.L ∨ (put x b).1.L = x.L ++ [b] ∧ (put x b).2.2 = 0 := by
  unfold put
  split
  · exact .inl rfl
  · split
    · exact .inl rfl
    · split
      · exact .inr ⟨rfl, rfl⟩
      · exact .inl rfl
theorem put_no {x : Ss} {b : Bs} (h : (put x b).2.2 ≠ 0) : (put x b).2.1 = [] := by
  unfold put at h ⊢
  split
  · rfl
  · next hl =>
    rw [if_neg hl] at h
    split
    · next hm => rw [if_pos hm] at h; exact absurd rfl h
    · next hm =>
      rw [if_neg hm] at h
      split
      · next he => rw [if_pos he] at h; exact absurd rfl h
      · rfl
theorem put_room {x : Ss} (b : Bs) : (put x b).1.s.room = x.s.room := by
  unfold put
  split
  · rfl
  · split
    · rfl
    · split <;> exact Dk.put_room _ _
theorem run_room (x : Ss) (l : List Bs) : (run x l).s.room = x.s.room := by
  induction l generalizing x with
  | nil => rfl
  | cons b r ih => exact (ih _).trans (put_room b)
theorem run_many (x : Ss) (l : List Bs) : (run x l).L.length ≤ x.L.length + l.length := by
  induction l generalizing x with
  | nil => exact Nat.le_refl _
  | cons b r ih =>
    have h1 := ih (put x b).1
    have h2 : (put x b).1.L.length ≤ x.L.length + 1 := by
      rcases put_grows (x := x) (b := b) with h | ⟨h, _⟩ <;> (rw [h]; simp)
    show (run (put x b).1 r).L.length ≤ _
    simp only [List.length_cons]
    omega
theorem sha_in {L : List Bs} {b : Bs} (h : b ∈ L) : sha b ∈ L.map sha := List.mem_map_of_mem h
/-- the object with an id -/
def got (L : List Bs) (id : Bs) : Option Bs := L.find? fun b => decide (sha b = id)
theorem got_is {L : List Bs} (hd : (L.map sha).Nodup) {i : Nat} {b : Bs} (h : L[i]? = some b) : got L (sha b) = some b := by
  unfold got
  rw [List.find?_eq_some_iff_append]
  have hi := (List.getElem?_eq_some_iff.1 h).1
  have e : L = L.take i ++ b :: L.drop (i + 1) := by
    have := (List.getElem?_eq_some_iff.1 h).2
    rw [← this, List.getElem_cons_drop, List.take_append_drop]
  refine ⟨by simp, L.take i, L.drop (i + 1), e, fun c hc => ?_⟩
  rw [e, List.map_append, List.map_cons] at hd
  have := (List.nodup_append.1 hd).2.2 (sha c) (List.mem_map_of_mem hc) (sha b) (by simp)
  simp [this]
theorem got_none {L : List Bs} {id : Bs} (h : ¬ id ∈ L.map sha) : got L id = none := by
  unfold got
  rw [List.find?_eq_none]
  intro b hb e
  exact h (by rw [← of_decide_eq_true e]; exact List.mem_map_of_mem hb)
theorem got_some {L : List Bs} {id b : Bs} (h : got L id = some b) : b ∈ L ∧ sha b = id := by
  unfold got at h
  have h2 := @List.find?_some _ (fun b => decide (sha b = id)) b L h
  exact ⟨List.mem_of_find?_eq_some h, of_decide_eq_true h2⟩
theorem short_no (L : List Bs) (id : Bs) (h : id.length ≠ 32) : ¬ id ∈ L.map sha := fun x => by
  obtain ⟨b, _, e⟩ := List.mem_map.1 x
  rw [← e, sha_len] at h
  exact h rfl
end Go.Proofs.YtcmjdepjckhpdabDoor.So
namespace Go.Proofs.YtcmjdepjckhpdabDoor.Rg
open Go

section
variable {P : Program} {ops : Array Oper} {Q : Exit → Act → World → Prop} {S : World → Prop}

/-- does operation j wait for k? -/
def waits (ops : Array Oper) (j k : Nat) : Bool := ((ops[j]?).map fun o => o.after.any fun e => Region.binds .any e && e.on == k).getD false
/-- does operation j wait for all others, or for one that does? -/
def sink (ops : Array Oper) (j : Nat) : Bool :=
  (List.range ops.size).all fun k => k == j || waits ops j k || (List.range ops.size).any fun i => waits ops j i && waits ops i k
/-- is what the listed ones wait for listed too? -/
def closed (ops : Array Oper) (listed : Array Bool) : Bool := (List.range ops.size).all fun j => !listed.getD j false || (List.range ops.size).all fun k => !waits ops j k || listed.getD k false
def Closed (ops : Array Oper) (listed : Array Bool) : Prop := ∀ j k, waits ops j k = true → listed.getD j false = true → listed.getD k false = true
theorem waits_spec {j k : Nat} {oj : Oper} (hj : ops[j]? = some oj) (h : waits ops j k = true) : ∃ e ∈ oj.after, Region.binds .any e = true ∧ e.on = k := by
  simp only [waits, hj, Option.map_some, Option.getD_some] at h
  obtain ⟨e, he, hb⟩ := Array.any_eq_true'.1 h
  simp only [Bool.and_eq_true, beq_iff_eq] at hb
  exact ⟨e, he, hb.1, hb.2⟩
theorem waits_lt {j k : Nat} (h : waits ops j k = true) : j < ops.size := by
  rcases Nat.lt_or_ge j ops.size with h' | h'
  · exact h'
  · simp [waits, Array.getElem?_eq_none h'] at h
theorem closed_spec {listed : Array Bool} (h : closed ops listed = true) (hk : ∀ j k, waits ops j k = true → k < ops.size) : Closed ops listed := by
  intro j k hw hl
  have h1 := List.all_eq_true.1 h j (List.mem_range.2 (waits_lt hw))
  simp only [hl, Bool.not_true, Bool.false_or] at h1
  have h2 := List.all_eq_true.1 h1 k (List.mem_range.2 (hk j k hw))
  simpa [hw] using h2
theorem closed_set {listed : Array Bool} {j : Nat} (h : Closed ops listed) (hj : j ∈ Region.ready .any ops listed) : Closed ops (listed.setIfInBounds j true) := by
  intro a b hw hl
  obtain ⟨_, oj, hoj, hall⟩ := mem_ready.1 hj
  by_cases e : j = a
  · subst e
    obtain ⟨e, he, hb, rfl⟩ := waits_spec hoj hw
    exact getD_set_true (hall e he hb)
  · rw [getD_set_ne false e] at hl
    exact getD_set_true (h a b hw hl)
theorem sink_spec {j k : Nat} {listed : Array Bool} (hc : Closed ops listed) (hj : j ∈ Region.ready .any ops listed) (h : sink ops j = true) (hk : k < ops.size) (hne : k ≠ j) : listed.getD k false = true := by
  obtain ⟨_, oj, hoj, hall⟩ := mem_ready.1 hj
  have h1 := List.all_eq_true.1 h k (List.mem_range.2 hk)
  simp only [Bool.or_eq_true, beq_iff_eq] at h1
  rcases h1 with (h1 | h1) | h1
  · exact absurd h1 hne
  · obtain ⟨e, he, hb, rfl⟩ := waits_spec hoj h1
    exact hall e he hb
  · obtain ⟨i, _, hi⟩ := List.any_eq_true.1 h1
    simp only [Bool.and_eq_true] at hi
    obtain ⟨e, he, hb, rfl⟩ := waits_spec hoj hi.1
    exact hc _ _ hi.2 (hall e he hb)

def wpAnyS (P : Program) (ops : Array Oper) (Q : Exit → Act → World → Prop) (S : World → Prop) : Nat → Array Bool → Act → World → Prop
  | 0, listed, a, w => Region.ready .any ops listed = [] ∧ Q .normal a w
  | fuel + 1, listed, a, w =>
    (Region.ready .any ops listed = [] → Q .normal a w) ∧
    ∀ i ∈ Region.ready .any ops listed, wpOp P ops Q i (fun a' w' => (sink ops i = false → S w') ∧ wpAnyS P ops Q S fuel (listed.setIfInBounds i true) a' w') a w

theorem any_of_S : ∀ (fuel : Nat) (listed : Array Bool) (a : Act) (w : World), wpAnyS P ops Q S fuel listed a w → wpAny P .any ops Q fuel listed a w
  | 0, _, _, _, h => h
  | fuel + 1, _, _, _, h => ⟨h.1, fun i hi => wpOp_mono (fun a' w' h' => any_of_S fuel _ a' w' h'.2) (h.2 i hi)⟩

theorem S_first {i : Nat} {oi : Oper} {v : Value} (hi : ops[i]? = some oi) (hsel : ∀ (j : Nat) (o : Oper) cs b, ops[j]? = some o → o.op ≠ .select cs b)
    (hQ : ∀ c a w, Q (.panic c) (a.put oi.dst v) w → Q (.panic c) a w) :
    ∀ (fuel : Nat) (listed : Array Bool) (a : Act) (w : World),
      (∀ j oj, ops[j]? = some oj → j ≠ i → listed.getD j true = false → (∀ e ∈ oj.after, Region.binds .any e = true → e.on ≠ i) → oi.apart ops oj = true) →
      i ∈ Region.ready .any ops listed → Closed ops listed → YieldsIf P ops S oi v a → S w →
      wpAnyS P ops Q S fuel (listed.setIfInBounds i true) (a.put oi.dst v) w → wpAnyS P ops Q S (fuel + 1) listed a w := by
  intro fuel
  induction fuel with
  | zero =>
    intro listed a w _ hr _ hy hS H
    refine ⟨fun h => (by rw [h] at hr; cases hr), fun j hj => ?_⟩
    by_cases hji : j = i
    · subst hji; exact hy.wpOp hi hS ⟨fun _ => hS, H⟩
    · have := ready_mono hj hji
      rw [H.1] at this
      cases this
  | succ fuel ih =>
    intro listed a w hfree hr hcl hy hS H
    refine ⟨fun h => (by rw [h] at hr; cases hr), fun j hj => ?_⟩
    by_cases hji : j = i
    · subst hji; exact hy.wpOp hi hS ⟨fun _ => hS, H⟩
    · have h1 := H.2 j (ready_mono hj hji)
      obtain ⟨hjun, oj, hoj, hall⟩ := mem_ready.1 hj
      have hnot : ∀ e ∈ oj.after, Region.binds .any e = true → e.on ≠ i := fun e he hb heq => by
        have h1 := hall e he hb
        have h0 := (mem_ready.1 hr).1
        rw [heq] at h1
        rcases Nat.lt_or_ge i listed.size with h' | h'
        · simp [h'] at h0 h1; rw [h0] at h1; cases h1
        · simp [Array.getElem?_eq_none h'] at h1
      have hsink : sink ops j = false := by
        cases hs : sink ops j with
        | false => rfl
        | true =>
          have h0 := (mem_ready.1 hr).1
          have h1 := sink_spec hcl hj hs (Array.getElem?_eq_some_iff.1 hi).1 (Ne.symm hji)
          rcases Nat.lt_or_ge i listed.size with h' | h'
          · simp [h'] at h0 h1; rw [h0] at h1; cases h1
          · simp [Array.getElem?_eq_none h'] at h1
      have h2 := wpOp_putIf hoj (hfree j oj hoj hji hjun hnot) (fun cs b => hsel i oi cs b hi) (fun cs b => hsel j oj cs b hoj) hQ hy h1
      have hfree' : ∀ k ok, ops[k]? = some ok → k ≠ i → (listed.setIfInBounds j true).getD k true = false →
          (∀ e ∈ ok.after, Region.binds .any e = true → e.on ≠ i) → oi.apart ops ok = true := fun k ok hk hki hun hno => by
        refine hfree k ok hk hki ?_ hno
        by_cases hjk : j = k
        · subst hjk; exact hjun
        · rw [getD_set_ne true hjk] at hun; exact hun
      refine wpOp_mono (fun a' w' h3 => ⟨fun _ => h3.2.1 hsink, ih (listed.setIfInBounds j true) a' w' hfree' (ready_mono hr (Ne.symm hji)) (closed_set hcl hj) h3.1 (h3.2.1 hsink) ?_⟩) h2
      rw [Array.setIfInBounds_comm _ _ hji]
      exact h3.2.2

/-- the first n of m are listed -/
def upTo (n m : Nat) : Array Bool := ((List.range m).map fun i => decide (i < n)).toArray

/-- the text's order: each operation with whether it only reads -/
def wpTxt (P : Program) (ops : Array Oper) (Q : Exit → Act → World → Prop) (S : World → Prop) : Nat → List (Oper × Bool) → Act → World → Prop
  | _, [], a, w => Q .normal a w
  | n, (o, true) :: rest, a, w => ∃ v, YieldsIf P ops S o v a ∧ S w ∧ wpTxt P ops Q S (n + 1) rest (a.put o.dst v) w
  | n, (o, false) :: rest, a, w => (if Region.wanted o (yielded ops a.tmps) then o.wp P a w (fun a' w' => (sink ops n = false → S w') ∧ wpTxt P ops Q S (n + 1) rest a' w') Q else ((sink ops n = false → S w) ∧ wpTxt P ops Q S (n + 1) rest (a.put o.dst undef) w))

/-- may the operations be walked so? (closed: asked of the kernel) -/
def planFrom (ops : Array Oper) : Nat → List Bool → Bool
  | n, [] => n == ops.size && (Region.ready .any ops (upTo n ops.size)).isEmpty
  | n, q :: rest => (if q then (Region.ready .any ops (upTo n ops.size)).contains n && Region.free .any ops (upTo n ops.size) n && closed ops (upTo n ops.size) else Region.ready .any ops (upTo n ops.size) == [n]) &&
      (upTo n ops.size).setIfInBounds n true == upTo (n + 1) ops.size && planFrom ops (n + 1) rest
def inside (ops : Array Oper) : Bool := ops.all fun o => o.after.all fun e => e.on < ops.size
theorem inside_spec (h : inside ops = true) (j k : Nat) (hw : waits ops j k = true) : k < ops.size := by
  have hj : ops[j]? = some (ops[j]'(waits_lt hw)) := Array.getElem?_eq_getElem _
  obtain ⟨e, he, _, rfl⟩ := waits_spec hj hw
  have h1 := Array.all_eq_true_iff_forall_mem.1 h _ (Array.getElem_mem (waits_lt hw))
  have h2 := Array.all_eq_true_iff_forall_mem.1 h1 e he
  simpa using h2
def plan (ops : Array Oper) (flags : List Bool) : Bool := inside ops && Region.noSelect ops && flags.length == ops.size && planFrom ops 0 flags

theorem txt_sound (hin : inside ops = true) (hsel : ∀ (j : Nat) (o : Oper) cs b, ops[j]? = some o → o.op ≠ .select cs b) (hQ : ∀ c a d v w, Q (.panic c) (Act.put a d v) w → Q (.panic c) a w) :
    ∀ (flags : List Bool) (n : Nat) (a : Act) (w : World), n + flags.length = ops.size → planFrom ops n flags = true →
      wpTxt P ops Q S n ((ops.toList.drop n).zip flags) a w → wpAnyS P ops Q S flags.length (upTo n ops.size) a w
  | [], n, a, w, hn, hp, h => by
    simp only [planFrom, Bool.and_eq_true, beq_iff_eq, List.isEmpty_iff] at hp
    have e : ops.toList.drop n = [] := List.drop_of_length_le (by simp at hn ⊢; omega)
    rw [e] at h
    exact ⟨hp.2, h⟩
  | q :: rest, n, a, w, hn, hp, h => by
    simp only [planFrom, Bool.and_eq_true, beq_iff_eq] at hp
    obtain ⟨⟨hp1, hp2⟩, hp3⟩ := hp
    have hlt : n < ops.size := by simp at hn; omega
    have hi : ops[n]? = some ops[n] := Array.getElem?_eq_getElem hlt
    have e : ops.toList.drop n = ops[n] :: ops.toList.drop (n + 1) := by
      rw [List.drop_eq_getElem_cons (by simpa using hlt)]; simp
    rw [e, List.zip_cons_cons] at h
    cases q with
    | true =>
      simp only [if_true, Bool.and_eq_true] at hp1
      obtain ⟨v, hy, hS, h⟩ := h
      have ih := txt_sound hin hsel hQ rest (n + 1) _ w (by simp at hn; omega) hp3 h
      rw [← hp2] at ih
      exact S_first hi hsel (fun c a w => hQ c a _ _ w) _ _ _ _ (Region.free_spec hi hp1.1.2) (by simpa using hp1.1.1) (closed_spec hp1.2 (inside_spec hin)) hy hS ih
    | false =>
      simp only [Bool.false_eq_true, if_false, beq_iff_eq] at hp1
      have hr : Region.ready .any ops (upTo n ops.size) = [n] := by simpa using hp1
      refine ⟨fun h0 => (by rw [h0] at hr; cases hr), fun i hii => ?_⟩
      rw [hr] at hii
      obtain rfl := List.mem_singleton.1 hii
      unfold wpOp
      simp only [hi]
      simp only [wpTxt] at h
      have step : ∀ a' w', ((sink ops i = false → S w') ∧ wpTxt P ops Q S (i + 1) ((ops.toList.drop (i + 1)).zip rest) a' w') →
          (sink ops i = false → S w') ∧ wpAnyS P ops Q S rest.length ((upTo i ops.size).setIfInBounds i true) a' w' := fun a' w' h' =>
        ⟨h'.1, by rw [hp2]; exact txt_sound hin hsel hQ rest (i + 1) a' w' (by simp at hn; omega) hp3 h'.2⟩
      split
      · rename_i hw
        rw [if_pos hw] at h
        exact .inl (Oper.wp_mono step h)
      · rename_i hw
        rw [if_neg hw] at h
        exact step _ _ h

theorem upTo_zero (m : Nat) : upTo 0 m = Array.replicate m false := by
  apply Array.ext' ; simp [upTo, List.map_const']

/-- THE REGION, WALKED IN THE TEXT's ORDER. -/
theorem wp_region_txt {id : Nat} {l : List Oper} {a : Act} {w : World} (S : World → Prop) (flags : List Bool) (hm : P.follows .mixedOrders = true) (hp : plan l.toArray flags = true)
    (h : wpTxt P l.toArray (NoPanic Q) S 0 (l.zip flags) a w.drew) : (Code.region id l.toArray true).wp P Q a w := by
  refine wp_region_noPanic ?_
  simp only [plan, Bool.and_eq_true, beq_iff_eq] at hp
  obtain ⟨⟨⟨h0, h1⟩, h2⟩, h3⟩ := hp
  refine wp_region_any hm (any_of_S (S := S) _ _ _ _ ?_)
  have := txt_sound (P := P) (S := S) h0 (Region.noSelect_spec h1) (fun _ _ _ _ _ h => h) flags 0 a w.drew (by omega) h3 (by simpa using h)
  rw [upTo_zero, h2] at this
  exact this

/-- one that only reads: its value is found by running it in whatever world meets S -/
theorem txt_quiet {n : Nat} {o : Oper} {rest : List (Oper × Bool)} {a : Act} {w : World} {v : Value} (hg : o.guard = none) (hy : ∀ w', S w' → (execOp a.eval o).run P w' = .ok (.value v) w') (hS : S w)
    (h : wpTxt P ops Q S (n + 1) rest (a.put o.dst v) w) : wpTxt P ops Q S n ((o, true) :: rest) a w :=
  ⟨v, .inl ⟨by simp [Region.wanted, hg], hy⟩, hS, h⟩
/-- one that is carried out here -/
theorem txt_loud {n : Nat} {o : Oper} {rest : List (Oper × Bool)} {a : Act} {w : World} (hg : o.guard = none)
    (h : ∀ K : Act → World → Prop, (∀ a' w', (sink ops n = false → S w') → wpTxt P ops Q S (n + 1) rest a' w' → K a' w') → o.wp P a w K Q) : wpTxt P ops Q S n ((o, false) :: rest) a w := by
  simp only [wpTxt]
  rw [if_pos (by simp [Region.wanted, hg])]
  exact h _ fun a' w' h1 h2 => ⟨h1, h2⟩
theorem txt_load {n : Nat} {o : Oper} {rest : List (Oper × Bool)} {a : Act} {w : World} (hg : o.guard = none) (ty : TypeId) (x : Operand) (ho : o.op = .load ty x)
    (b k : Nat) (hx : a.eval x = .pointer (some ⟨b, k, none⟩)) (cs : List Value) (d : TypeDesc) (hc : ∀ w', S w' → w'.rangeAt b k cs)
    (hu : P.underlying ty = some d) (hd : d.isRow = true) (hi : (P.info? ty).map (·.size) = some cs.length) (hS : S w)
    (h : wpTxt P ops Q S (n + 1) rest (a.put o.dst (.agg cs.toArray)) w) : wpTxt P ops Q S n ((o, true) :: rest) a w :=
  txt_quiet hg (fun w' hw' => by
    unfold execOp
    simp only [ho, hx, Instr.loadAt, Instr.sureAddr, Sem.run_bind, Sem.run_pure, Result.andThen_ok, run_loadVar_mid w' b k ty cs d (hc w' hw') hu hd hi]) hS h
theorem txt_store {n : Nat} {o : Oper} {rest : List (Oper × Bool)} {a : Act} {w : World} (hg : o.guard = none) (ty : TypeId) (x y : Operand) (ho : o.op = .store ty x y)
    (b k : Nat) (cells : Array Value) (hx : a.eval x = .pointer (some ⟨b, k, none⟩)) (hy : a.eval y = .agg cells)
    (ht : w.there b k cells.size) (hi : (P.info? ty).map (·.size) = some cells.size) (h1 : cells.all (·.oneCell') = true)
    (h : (sink ops n = false → S (w.setCells b k cells.toList)) ∧ wpTxt P ops Q S (n + 1) rest (a.put o.dst undef) (w.setCells b k cells.toList)) : wpTxt P ops Q S n ((o, false) :: rest) a w :=
  txt_loud hg fun _ hK => wp_store_mid ty x y ho b k cells hx hy ht hi h1 (hK _ _ h.1 h.2)
open Kt Go.RowKit in
theorem txt_push {n : Nat} {o : Oper} {rest : List (Oper × Bool)} {a : Act} {w : World} {cs : Array Value} {E : TypeId} (W : World) (hW : w = W.alloc (.cells cs E))
    (hgd : o.guard = none) (s x : Operand) (t : TypeId) (ho : o.op = .call { callee := .builtin .append, args := #[s, x], argTypes := #[t, t] })
    (ht : P.underlying t = some (.slice E)) (hi : (P.info? E).map (fun i => (i.zero, i.size, i.bytes)) = some (some (.int .u8 0), 1, 1))
    (B : Nat) (w0 : World) (v : Value) (l news : List UInt8) (m c : Nat) (hs : a.eval s = v) (hx : a.eval x = .slice (some ⟨W.heap.size, 0, none⟩) m c)
    (hown : Own W B E v l) (hc : cs = (u8s news).toArray) (hm : m = news.length) (hlen : l.length + news.length ≤ 70368744177664) (hb : Below B w0 W) (hbase : B ≤ W.heap.size)
    (h : ∀ v' w', Own w' B E v' (l ++ news) → Below B w0 w' → W.grownBy w' v.ownBlock → (sink ops n = false → S w') ∧ wpTxt P ops Q S (n + 1) rest (a.put o.dst v') w') : wpTxt P ops Q S n ((o, false) :: rest) a w := by
  subst hW
  exact txt_loud hgd fun K hK => wp_push s x t ho ht hi B w0 v l news m c hs hx hown hc hm hlen hb hbase fun v' w' h1 h2 h3 => hK _ _ (h v' w' h1 h2 h3).1 (h v' w' h1 h2 h3).2
theorem not_sink {n : Nat} {p : Prop} (hs : sink ops n = true) (h : sink ops n = false) : p := by rw [hs] at h; cases h
theorem txt_nil {n : Nat} {a : Act} {w : World} (h : Q .normal a w) : wpTxt P ops (NoPanic Q) S n [] a w := NoPanic.normal h
end
end Go.Proofs.YtcmjdepjckhpdabDoor.Rg
namespace Go.Proofs.YtcmjdepjckhpdabDoor.Kt
open Go Go.RowKit

theorem run_append_nothing {P : Program} {w : World} {t ty e : TypeId} {i : TypeInfo} (ht : P.underlying t = some (.slice e)) (hi : P.info? e = some i) {B size : Nat}
    {v : Value} {n : Nat} {xs : List Value} (hown : w.ownsRow B e size v n xs) (c : Nat) : (Builtin.append_ #[t, t] ty #[v, .slice none 0 c]).run P w = .ok v w := by
  rcases hown.2 with ⟨rfl, rfl⟩ | ⟨g, cap, cur, rfl, _, _, hnc, _⟩
  · simp [Builtin.append_, run_underlying ht, sizeOf, typeInfo, hi, Builtin.lenOf, Builtin.firstCells]
  · simp [Builtin.append_, run_underlying ht, sizeOf, typeInfo, hi, Builtin.lenOf, Builtin.firstCells, hnc, storeCells]

theorem wp_cat {P : Program} {o : Oper} {a : Act} {K : Act → World → Prop} {Q : Exit → Act → World → Prop} {w : World} {E : TypeId}
    (s x : Operand) (t : TypeId) (ho : o.op = .call { callee := .builtin .append, args := #[s, x], argTypes := #[t, t] })
    (ht : P.underlying t = some (.slice E)) (hi : (P.info? E).map (fun i => (i.zero, i.size, i.bytes)) = some (some (.int .u8 0), 1, 1))
    (B : Nat) (w0 : World) (v : Value) (l bs : List UInt8) (Pb : Nat → Prop) (A : Option Addr) (c : Nat) (hs : a.eval s = v) (hx : a.eval x = .slice A bs.length c)
    (hown : Own w B E v l) (hsl : Sl w Pb A c bs) (hlen : l.length + bs.length ≤ 70368744177664) (hb : Below B w0 w) (hbase : B ≤ w.heap.size)
    (h : ∀ v' w', Own w' B E v' (l ++ bs) → Below B w0 w' → w.grownBy w' v.ownBlock → K (a.put o.dst v') w') : o.wp P a w K Q := by
  obtain ⟨i0, hi0, hz0, hz1, hz2⟩ := info_parts hi
  cases A with
  | none =>
    have h0 : bs = [] := by
      cases bs with
      | nil => rfl
      | cons b r => obtain ⟨_, _, he, _⟩ := hsl.2 (by simp); cases he
    subst h0
    have hrun := run_append_nothing (P := P) (ty := o.type) ht hi0 hown c
    simp only [List.length_nil] at hx
    unfold Oper.wp execOp
    simp only [ho, resolve, invoke, builtin, Sem.run_bind, Sem.run_pure, Result.andThen_ok, List.map_toArray, List.map_cons, List.map_nil, hs, hx, hrun]
    exact h v w (by simpa using hown) hb (World.grownBy.refl _ _)
  | some ad =>
    refine wp_append_own _ s x t ho B E i0 (.int .u8 0) 1 1 ht hi0 hz0 hz1 hz2 rfl (by omega) v l.length (u8s l) hs hown ad bs.length c (u8s bs) hx (by simp [u8s_len])
      (fun j u hu => ?_) (u8s_one bs) (by unfold maxLen; omega) (by omega) hbase (fun v' w' h1 h2 _ => ?_)
    · have hj : j < bs.length := by have := (List.getElem?_eq_some_iff.1 hu).1; rwa [u8s_len] at this
      obtain ⟨b, k, he, _, hc⟩ := hsl.cells (by omega)
      injection he with he
      subst he
      rw [Addr.add_mid]
      exact hc j u hu
    · refine h v' w' ?_ (hb.grown h2 hbase fun k hk => (World.ownsRow.lt hown k hk).1) h2
      unfold Own
      rw [List.length_append, u8s_append]
      exact h1
theorem wpList_cat {P : Program} {ops : Array Oper} {rest : List Oper} {o : Oper} {a : Act} {Q : Exit → Act → World → Prop} {w : World} {E : TypeId}
    (hgd : o.guard = none) (s x : Operand) (t : TypeId) (ho : o.op = .call { callee := .builtin .append, args := #[s, x], argTypes := #[t, t] })
    (ht : P.underlying t = some (.slice E)) (hi : (P.info? E).map (fun i => (i.zero, i.size, i.bytes)) = some (some (.int .u8 0), 1, 1))
    (B : Nat) (w0 : World) (v : Value) (l bs : List UInt8) (Pb : Nat → Prop) (A : Option Addr) (c : Nat) (hs : a.eval s = v) (hx : a.eval x = .slice A bs.length c)
    (hown : Own w B E v l) (hsl : Sl w Pb A c bs) (hlen : l.length + bs.length ≤ 70368744177664) (hb : Below B w0 w) (hbase : B ≤ w.heap.size)
    (h : ∀ v' w', Own w' B E v' (l ++ bs) → Below B w0 w' → w.grownBy w' v.ownBlock → wpList P ops Q rest (a.put o.dst v') w') : wpList P ops Q (o :: rest) a w :=
  wpList_plain hgd fun _ hK => wp_cat s x t ho ht hi B w0 v l bs Pb A c hs hx hown hsl hlen hb hbase fun v' w' h1 h2 h3 => hK _ _ (h v' w' h1 h2 h3)
end Go.Proofs.YtcmjdepjckhpdabDoor.Kt
namespace Go.Proofs.YtcmjdepjckhpdabDoor.Kg
open Go Go.RowKit Kt

/-- but the blocks of S, all that was there is as it was -/
structure Oth (S : Nat → Prop) (A B : World) : Prop where
  os : B.os = A.os
  tape : B.tape = A.tape
  output : B.output = A.output
  size : A.heap.size ≤ B.heap.size
  block : ∀ k, k < A.heap.size → ¬ S k → B.heap[k]? = A.heap[k]?
section
variable {S T : Nat → Prop} {A B C : World}
theorem Oth.refl (S : Nat → Prop) (A : World) : Oth S A A := ⟨rfl, rfl, rfl, Nat.le_refl _, fun _ _ _ => rfl⟩
theorem Oth.trans (h : Oth S A B) (k : Oth T B C) (hi : ∀ i, i < A.heap.size → T i → S i) : Oth S A C :=
  ⟨k.os.trans h.os, k.tape.trans h.tape, k.output.trans h.output, Nat.le_trans h.size k.size, fun i hl hn => (k.block i (Nat.lt_of_lt_of_le hl h.size) fun ht => hn (hi i hl ht)).trans (h.block i hl hn)⟩
theorem Oth.mono (h : Oth S A B) (hi : ∀ i, i < A.heap.size → S i → T i) : Oth T A B := ⟨h.os, h.tape, h.output, h.size, fun i hl hn => h.block i hl fun hs => hn (hi i hl hs)⟩
theorem Oth.of_below (S : Nat → Prop) (h : Below A.heap.size A B) : Oth S A B := ⟨h.os, h.tape, h.output, h.size, fun i hl _ => h.block i hl⟩
theorem Oth.of_grown {r : Option Nat} (h : A.grownBy B r) (hr : ∀ g, r = some g → S g) : Oth S A B :=
  ⟨h.os, h.tape, h.output, h.size, fun i hl hn => h.block i hl fun e => hn (hr i e.symm)⟩
theorem Oth.below (h : Oth S A B) {n : Nat} {w0 : World} (hb : Below n w0 A) (hn : n ≤ A.heap.size) (hS : ∀ k, k < n → ¬ S k) : Below n w0 B :=
  ⟨h.os.trans hb.os, h.tape.trans hb.tape, h.output.trans hb.output, Nat.le_trans hb.size h.size, fun k hk => (h.block k (Nat.lt_of_lt_of_le hk hn) (hS k hk)).trans (hb.block k hk)⟩
theorem Oth.put (h : Oth S A B) {g i : Nat} (hg : S g ∨ A.heap.size ≤ g) (u : Value) : Oth S A (B.setCell ⟨g, i, none⟩ u) :=
  ⟨h.os, h.tape, h.output, by simpa [World.setCell] using h.size, fun k hk hn => (Below.heap_setCell B ⟨g, i, none⟩ u k (fun e => by
    subst e
    rcases hg with hg | hg
    · exact hn hg
    · omega)).trans (h.block k hk hn)⟩
theorem Oth.drew (h : Oth S A B) : Oth S A B.drew := ⟨h.os, h.tape, h.output, h.size, h.block⟩
theorem Oth.drewN (h : Oth S A B) (n : Nat) : Oth S A (B.drewN n) := ⟨h.os, h.tape, h.output, h.size, h.block⟩
theorem Oth.alloc (h : Oth S A B) (o : Obj) : Oth S A (B.alloc o) :=
  ⟨h.os, h.tape, h.output, Nat.le_trans h.size (by simp), fun k hk hn => (Below.heap_alloc B o k (Nat.lt_of_lt_of_le hk h.size)).trans (h.block k hk hn)⟩
theorem Oth.row {g : Nat} {t : TypeId} {cs : List Value} (h : Oth S A B) (hr : Row A g t cs) (hg : ¬ S g) : Row B g t cs := (h.block g hr.lt hg).trans hr
theorem grown_two {r : Option Nat} (h : A.grownBy B r) (k : B.grownBy C r) : A.grownBy C r :=
  ⟨k.os.trans h.os, k.tape.trans h.tape, k.output.trans h.output, Nat.le_trans h.size k.size, fun i hi hne => (k.block i (Nat.lt_of_lt_of_le hi h.size) hne).trans (h.block i hi hne)⟩
end
end Go.Proofs.YtcmjdepjckhpdabDoor.Kg
namespace Go.Proofs.YtcmjdepjckhpdabDoor.Dk
open Go Go.RowKit Kt Kg

/-- bytes in a block of which S holds; behind its room the block may go on -/
def OwnS (w : World) (S : Nat → Prop) (E : TypeId) (v : Value) (l : List UInt8) : Prop :=
  (v = .slice none 0 0 ∧ l = []) ∨ ∃ g cap cur, v = .slice (some ⟨g, 0, none⟩) l.length cap ∧ S g ∧ w.heap[g]? = some (.cells cur E (0, 0)) ∧ l.length ≤ cap ∧ cap ≤ maxLen ∧ cap ≤ cur.size ∧ cur.toList.take l.length = u8s l
section
variable {w w' : World} {S T : Nat → Prop} {E : TypeId} {v : Value} {l : List UInt8}
theorem OwnS.nil (w : World) (S : Nat → Prop) (E : TypeId) : OwnS w S E (.slice none 0 0) [] := .inl ⟨rfl, rfl⟩
theorem OwnS.of {B : Nat} (h : Own w B E v l) : OwnS w (fun b => B ≤ b ∧ v.ownBlock = some b) E v l := by
  rcases h.2 with ⟨rfl, h0⟩ | ⟨g, cap, cur, rfl, hB, hg, hnc, hcm, hs, ht⟩
  · exact .inl ⟨rfl, List.eq_nil_of_length_eq_zero h0⟩
  · exact .inr ⟨g, cap, cur, rfl, ⟨hB, rfl⟩, hg, hnc, hcm, by omega, by rw [← ht, Nat.mul_one]⟩
theorem OwnS.imp (h : OwnS w S E v l) (hi : ∀ b, b < w.heap.size → S b → T b) : OwnS w T E v l := by
  rcases h with h | ⟨g, cap, cur, h1, h2, h3, h4⟩
  · exact .inl h
  · exact .inr ⟨g, cap, cur, h1, hi g (Array.getElem?_eq_some_iff.1 h3).1 h2, h3, h4⟩
theorem OwnS.move (h : OwnS w S E v l) (hk : ∀ b, S b → b < w.heap.size → w'.heap[b]? = w.heap[b]?) : OwnS w' S E v l := by
  rcases h with h | ⟨g, cap, cur, h1, h2, h3, h4⟩
  · exact .inl h
  · exact .inr ⟨g, cap, cur, h1, h2, (hk g h2 (Array.getElem?_eq_some_iff.1 h3).1).trans h3, h4⟩
theorem OwnS.oth (h : OwnS w S E v l) (ho : Oth T w w') (hd : ∀ k, S k → ¬ T k) : OwnS w' S E v l := h.move fun b hb hlt => ho.block b hlt (hd b hb)
theorem OwnS.sl (h : OwnS w S E v l) : ∃ A c, v = .slice A l.length c ∧ Sl w S A c l := by
  rcases h with ⟨rfl, rfl⟩ | ⟨g, cap, cur, rfl, hS, hg, hnc, _, hs, ht⟩
  · exact ⟨none, 0, rfl, Sl.nil _ _ _ _⟩
  · refine ⟨_, cap, rfl, hnc, fun _ => ⟨g, 0, rfl, hS, fun j hj => ?_⟩⟩
    rw [Nat.zero_add, cell_of_row w g j cur E (0, 0) hg]
    have h1 := u8s_get l j hj
    rw [← ht, List.getElem?_take, if_pos hj] at h1
    simpa using h1
theorem OwnS.block (h : OwnS w S E v l) {g : Nat} (hg : v.ownBlock = some g) : S g ∧ g < w.heap.size := by
  rcases h with ⟨rfl, _⟩ | ⟨g', cap, cur, rfl, hS, hh, _⟩
  · cases hg
  · obtain rfl : g' = g := by simpa [Value.ownBlock] using hg
    exact ⟨hS, (Array.getElem?_eq_some_iff.1 hh).1⟩
/-- its first bytes, with three indices -/
theorem OwnS.cut (h : OwnS w S E v l) {k : Nat} (hk : k ≤ l.length) : ∃ A c, v = .slice A l.length c ∧ l.length ≤ c ∧ OwnS w S E (.slice A k k) (l.take k) := by
  rcases h with ⟨rfl, rfl⟩ | ⟨g, cap, cur, rfl, hS, hg, hnc, hcm, hs, ht⟩
  · obtain rfl : k = 0 := by simpa using hk
    exact ⟨none, 0, rfl, Nat.le_refl _, .inl ⟨rfl, rfl⟩⟩
  · have e : (l.take k).length = k := by rw [List.length_take]; omega
    refine ⟨_, cap, rfl, hnc, .inr ⟨g, k, cur, by rw [e], hS, hg, by rw [e]; exact Nat.le_refl _, by omega, by omega, ?_⟩⟩
    have h1 := congrArg (List.take k) ht
    rw [List.take_take, Nat.min_eq_left hk] at h1
    rw [e, h1]
    simp [u8s, List.map_take]
end

theorem run_catS {P : Program} {w : World} {t ty E : TypeId} (ht : P.underlying t = some (.slice E)) (hi : (P.info? E).map (fun i => (i.zero, i.size, i.bytes)) = some (some (.int .u8 0), 1, 1))
    {S : Nat → Prop} {v : Value} {l bs : List UInt8} {Pb : Nat → Prop} {A : Option Addr} {c : Nat} (hown : OwnS w S E v l) (hsl : Sl w Pb A c bs) (hlen : l.length + bs.length ≤ 70368744177664) :
    ∃ v' w', (Builtin.append_ #[t, t] ty #[v, .slice A bs.length c]).run P w = .ok v' w' ∧ OwnS w' (fun k => S k ∨ k = w.heap.size) E v' (l ++ bs) ∧ w.grownBy w' v.ownBlock := by
  obtain ⟨i, hi0, hz0, hz1, hz2⟩ := info_parts hi
  have small : ∀ n, n ≤ 70368744177664 → n ≤ maxLen := fun n h => by unfold maxLen; omega
  cases A with
  | none =>
    have h0 : bs = [] := by
      cases bs with
      | nil => rfl
      | cons b r => obtain ⟨_, _, he, _⟩ := hsl.2 (by simp); cases he
    subst h0
    rw [List.append_nil]
    rcases hown with ⟨rfl, rfl⟩ | ⟨g, cap, cur, rfl, hS, hg, hnc, hcm, hs, htk⟩
    · refine ⟨.slice none 0 0, w, ?_, .inl ⟨rfl, rfl⟩, World.grownBy.refl _ _⟩
      simp [Builtin.append_, run_underlying ht, sizeOf, typeInfo, hi0, Builtin.lenOf, Builtin.firstCells]
    · refine ⟨_, w, ?_, .inr ⟨g, cap, cur, rfl, .inl hS, hg, hnc, hcm, hs, htk⟩, World.grownBy.refl _ _⟩
      simp [Builtin.append_, run_underlying ht, sizeOf, typeInfo, hi0, Builtin.lenOf, Builtin.firstCells, hnc, storeCells]
  | some ad =>
    have hnews : ∀ j u, (u8s bs)[j]? = some u → w.cell? (ad.add j) = some u := fun j u hu => by
      have hj : j < bs.length := by have := (List.getElem?_eq_some_iff.1 hu).1; rwa [u8s_len] at this
      obtain ⟨b, k, he, _, hc⟩ := hsl.cells (by omega)
      injection he with he
      subst he
      rw [Addr.add_mid]
      exact hc j u hu
    rcases hown with ⟨rfl, rfl⟩ | ⟨g, cap, cur, rfl, hS, hg, hnc, hcm, hs, htk⟩
    · obtain ⟨v', w', hr, h1, h2, _⟩ := run_append_own (P := P) w w.heap.size t ty E i (.int .u8 0) 1 1 ht hi0 hz0 hz1 hz2 rfl (by omega) (.slice none 0 0) 0 [] (World.ownsRow_nil _ _ _ _) ad bs.length c (u8s bs) (by simp [u8s_len]) hnews (u8s_one bs) (small _ (by simp at hlen; omega)) (by simp at hlen; omega) (Nat.le_refl _)
      have ho : Own w' w.heap.size E v' bs := by unfold Own; simpa using h1
      refine ⟨v', w', hr, ?_, h2⟩
      rw [List.nil_append]
      by_cases hb0 : bs = []
      · subst hb0
        rcases ho.2 with ⟨rfl, _⟩ | ⟨g, cap, cur, rfl, hB, hg, hnc, hcm, hs, htk⟩
        · exact .inl ⟨rfl, rfl⟩
        · simp [Builtin.append_, run_underlying ht, sizeOf, typeInfo, hi0, Builtin.lenOf, Builtin.firstCells, loadCells, loadCellsFrom] at hr
      · have hbl : 0 < bs.length := List.length_pos_iff.2 hb0
        have hr2 := run_append_nil (P := P) w t ty E i (.int .u8 0) ht hi0 hz0 ad bs.length c (u8s bs) (by simp [u8s_len, hz1]) hnews (by omega) (by simp at hlen; omega) (by rw [hz2]; simp at hlen; omega)
        rw [hr] at hr2
        injection hr2 with e1 e2
        subst e1 e2
        rcases ho.2 with ⟨h, _⟩ | ⟨g, cap, cur, hv, hB, hg, hnc, hcm, hs, htk⟩
        · cases h
        · have hgs : g = w.heap.size := by injection hv with hv1 _ _; injection hv1 with hv1; injection hv1 with hv1 _ _; exact hv1.symm
          exact .inr ⟨g, cap, cur, hv, .inr hgs, hg, hnc, hcm, by omega, by rw [← htk, Nat.mul_one]⟩
    · have hx : (u8s l).length = l.length * i.size := by rw [hz1, u8s_len, Nat.mul_one]
      have hy : (u8s bs).length = bs.length * i.size := by rw [hz1, u8s_len, Nat.mul_one]
      by_cases hroom : l.length + bs.length ≤ cap
      · have hr := run_append_room (P := P) w t ty E i ht hi0 g l.length cap cur hg ad bs.length c (u8s bs) hy hnews (u8s_one bs) hroom (by rw [hz1, u8s_len]; omega)
        rw [hz1, Nat.mul_one] at hr
        refine ⟨_, _, hr, .inr ⟨g, cap, _, by rw [List.length_append], .inl hS, setRow_heap w g cur _ E _ hg, by rw [List.length_append]; exact hroom, hcm, ?_, ?_⟩, ⟨rfl, rfl, rfl, by simp, fun k _ hk => setRow_other w g k _ (fun e => hk (by simp [Value.ownBlock, e]))⟩⟩
        · simp only [List.size_toArray, List.length_append, List.length_take, List.length_drop, Array.length_toList, u8s_len]
          omega
        · rw [htk, List.length_append, ← u8s_append, ← List.length_append, ← u8s_len (l ++ bs)]
          exact List.take_left
      · have holds : ∀ j u, (u8s l)[j]? = some u → w.cell? ((⟨g, 0, none⟩ : Addr).add j) = some u := fun j u hu => by
          rw [Addr.add_mid, Nat.zero_add, cell_of_row w g j cur E (0, 0) hg]
          rw [← htk, List.getElem?_take] at hu
          split at hu
          · simpa using hu
          · cases hu
        have hr := run_append_grow (P := P) w t ty E i (.int .u8 0) ht hi0 hz0 ⟨g, 0, none⟩ l.length cap (u8s l) hx holds ad bs.length c (u8s bs) hy hnews (by omega) (by omega) (growslice_fits (by omega) (by rw [hz2]; omega))
        have hge := grownCap_ge w (l.length + bs.length) cap E
        have hcm : grownCap w (l.length + bs.length) cap E ≤ maxLen := grownCap_le_maxLen w (l.length + bs.length) cap E (small _ hlen)
        refine ⟨_, _, hr, .inr ⟨w.heap.size, _, _, by rw [List.length_append], .inr rfl, heap_alloc_new w.drew _, by rw [List.length_append]; exact hge, hcm, ?_, ?_⟩, ⟨rfl, rfl, rfl, by simp, fun k hk _ => Below.heap_alloc w.drew _ k hk⟩⟩
        · simp only [Array.size_append, List.size_toArray, size_zeroCells, u8s_len]
          have : (Value.cells (.int .u8 0)).size = 1 := rfl
          rw [this]
          omega
        · simp only [Array.toList_append, List.append_assoc]
          rw [← List.append_assoc, ← u8s_append, ← u8s_len (l ++ bs)]
          exact List.take_left
theorem wp_catS {P : Program} {o : Oper} {a : Act} {K : Act → World → Prop} {Q : Exit → Act → World → Prop} {w : World} {E : TypeId}
    (s x : Operand) (t : TypeId) (ho : o.op = .call { callee := .builtin .append, args := #[s, x], argTypes := #[t, t] })
    (ht : P.underlying t = some (.slice E)) (hi : (P.info? E).map (fun i => (i.zero, i.size, i.bytes)) = some (some (.int .u8 0), 1, 1))
    (S : Nat → Prop) (v : Value) (l bs : List UInt8) (Pb : Nat → Prop) (A : Option Addr) (c : Nat) (hs : a.eval s = v) (hx : a.eval x = .slice A bs.length c)
    (hown : OwnS w S E v l) (hsl : Sl w Pb A c bs) (hlen : l.length + bs.length ≤ 70368744177664)
    (h : ∀ v' w', OwnS w' (fun k => S k ∨ k = w.heap.size) E v' (l ++ bs) → w.grownBy w' v.ownBlock → K (a.put o.dst v') w') : o.wp P a w K Q := by
  obtain ⟨v', w', hr, h1, h2⟩ := run_catS (P := P) (ty := o.type) ht hi hown hsl hlen
  unfold Oper.wp execOp
  simp only [ho, resolve, invoke, builtin, Sem.run_bind, Sem.run_pure, Result.andThen_ok, List.map_toArray, List.map_cons, List.map_nil, hs, hx, hr]
  exact h v' w' h1 h2
theorem wpList_catS {P : Program} {ops : Array Oper} {rest : List Oper} {o : Oper} {a : Act} {Q : Exit → Act → World → Prop} {w : World} {E : TypeId}
    (hgd : o.guard = none) (s x : Operand) (t : TypeId) (ho : o.op = .call { callee := .builtin .append, args := #[s, x], argTypes := #[t, t] })
    (ht : P.underlying t = some (.slice E)) (hi : (P.info? E).map (fun i => (i.zero, i.size, i.bytes)) = some (some (.int .u8 0), 1, 1))
    (S : Nat → Prop) (v : Value) (l bs : List UInt8) (Pb : Nat → Prop) (A : Option Addr) (c : Nat) (hs : a.eval s = v) (hx : a.eval x = .slice A bs.length c)
    (hown : OwnS w S E v l) (hsl : Sl w Pb A c bs) (hlen : l.length + bs.length ≤ 70368744177664)
    (h : ∀ v' w', OwnS w' (fun k => S k ∨ k = w.heap.size) E v' (l ++ bs) → w.grownBy w' v.ownBlock → wpList P ops Q rest (a.put o.dst v') w') : wpList P ops Q (o :: rest) a w :=
  wpList_plain hgd fun _ hK => wp_catS s x t ho ht hi S v l bs Pb A c hs hx hown hsl hlen fun v' w' h1 h2 => hK _ _ (h v' w' h1 h2)
end Go.Proofs.YtcmjdepjckhpdabDoor.Dk

namespace Go.Proofs.YtcmjdepjckhpdabDoor.Wr
open Go Go.RowKit Kt

theorem info8 : (Tryd.prog.info? 5).map (fun i => (i.zero, i.size, i.bytes)) = some (some (.int .u8 0), 1, 1) := by kernel_rfl
theorem make10 (w : World) : (Instr.makeSlice 38 (.int .i64 0) (.int .i64 10)).run Tryd.prog w = .ok (.slice (some ⟨w.heap.size, 0, none⟩) 0 10) (w.alloc (.cells (u8s (List.replicate 10 0)).toArray 5)) := by kernel_rfl

set_option maxHeartbeats 1000000 in
set_option maxRecDepth 100000 in
theorem form_any (n : Nat) (w : World) (h : n < 18446744073709551616) :
    Calls Tryd.prog 45 #[.int .u64 n] w fun e w' => ∃ v, e = .returned v ∧ Own w' w.heap.size 5 v (form n) ∧ Below w.heap.size w w' := by
  have Hn := hide h
  clear h
  have hmk := make10
  go_enter Tryd.func45, Tryd.ntmps45
  go_wp2
  clear hmk
  go_loopw [0, 3] (fun x v wr => ∃ (m : Nat) (l : List UInt8), x = .int .u64 m ∧ m ≤ n ∧ Own wr w.heap.size 5 v l ∧ l ++ form m = form n ∧ Below w.heap.size w wr) (fun x _ _ => (intOf x).toNat)
  case atStart => exact ⟨n, [], rfl, Nat.le_refl _, Own.made _ _ _ _ 10 (Nat.le_refl _) (by simp [u8s]) (by simp [maxLen]), rfl, (Below.refl _ _).alloc (Nat.le_refl _) _⟩
  case round =>
    obtain ⟨m, l, rfl, hm, hown, hl, hb⟩ := hrel
    have Hown := hide hown
    have Hb := hide hb
    have Hl := hide hl
    have Hmn := hide hm
    have hlen : l.length + (form m).length = (form n).length := by rw [← hl, List.length_append]
    have hs10 := form_short n 10 (by have := Hn.out; omega) (by omega)
    have Hlen := hide (show l.length + 10 ≤ 70368744177664 by have := form_pos m; omega)
    have Hm := hide (show m < 18446744073709551616 by have := Hn.out; omega)
    clear hown hb hl hm hlen hs10
    have hm8 : m % 128 + 128 < 256 := by omega
    by_cases hlt : m < 128
    · have Hf := hide (form_lt hlt)
      go_wp2_with (at_builtin; refine wpList_push rfl (.tmp 16) (.tmp 19) 38 rfl Tryd.underlying38 info8 w.heap.size w _ l [UInt8.ofNat m] 1 1 rfl rfl Hown.out ?qc rfl ?ql Hb.out Hb.out.size ?_; rotate_left 2; intro v' w1 hown1 hb1 _)
      case qc => simp [u8s, UInt8.toNat_ofNat']; omega
      case ql => have := Hlen.out; simp; omega
      go_ret
      refine ⟨_, rfl, ?_, hb1⟩
      rw [← Hl.out, Hf.out]
      exact hown1
    · have Hf := hide (form_ge hlt)
      go_wp2_with (at_builtin; go_loud (refine wpList_push rfl (.tmp 7) (.tmp 12) 38 rfl Tryd.underlying38 info8 w.heap.size w _ l [UInt8.ofNat (m % 128 + 128)] 1 1 rfl rfl Hown.out ?qc rfl ?ql Hb.out Hb.out.size ?_; rotate_left 2; intro v' w1 hown1 hb1 _))
      case qc => simp [u8s, UInt8.toNat_ofNat']; omega
      case ql => have := Hlen.out; simp; omega
      refine ⟨⟨m / 128, _, by push_cast; rfl, by have := Hmn.out; omega, hown1, ?_, hb1⟩, ?_⟩
      · rw [← Hl.out, Hf.out]; simp
      · simp only [intOf]; omega
end Go.Proofs.YtcmjdepjckhpdabDoor.Wr
namespace Go.Proofs.YtcmjdepjckhpdabDoor.Wr
open Go Go.RowKit Kt

/-- a slice that holds these bytes: a value, its length, and what it holds -/
def Is (w : World) (P : Nat → Prop) (v : Value) (l : List UInt8) : Prop := ∃ A c, v = .slice A l.length c ∧ Sl w P A c l
theorem Is.move {w w' : World} {P : Nat → Prop} {v : Value} {l : List UInt8} (h : Is w P v l) (hk : ∀ b, P b → b < w.heap.size → w'.heap[b]? = w.heap[b]?) : Is w' P v l := by
  obtain ⟨A, c, rfl, hs⟩ := h
  exact ⟨A, c, rfl, hs.move hk⟩
theorem Is.below {w w' : World} {P : Nat → Prop} {v : Value} {l : List UInt8} (h : Is w P v l) (hb : Below w.heap.size w w') : Is w' P v l := h.move fun b _ hlt => hb.block b hlt
theorem Is.imp {w : World} {P Q : Nat → Prop} {v : Value} {l : List UInt8} (h : Is w P v l) (hi : ∀ b, b < w.heap.size → P b → Q b) : Is w Q v l := by
  obtain ⟨A, c, rfl, hs⟩ := h
  exact ⟨A, c, rfl, hs.imp hi⟩
theorem Is.bound {w : World} {P : Nat → Prop} {v : Value} {l : List UInt8} (h : Is w P v l) : Is w (fun b => P b ∧ b < w.heap.size) v l := h.imp fun _ hb hp => ⟨hp, hb⟩
theorem Is.nil (w : World) (P : Nat → Prop) : Is w P (.slice none 0 0) [] := ⟨none, 0, rfl, Sl.nil _ _ _ _⟩
theorem Is.own {w : World} {B : Nat} {E : TypeId} {v : Value} {l : List UInt8} (h : Own w B E v l) : Is w (fun b => B ≤ b ∧ v.ownBlock = some b) v l := h.sl

set_option maxHeartbeats 1000000 in
set_option maxRecDepth 100000 in
theorem clone_any (l : List UInt8) (A : Option Addr) (c : Nat) (Pb : Nat → Prop) (w : World) (hs : Sl w Pb A c l) (hl : l.length ≤ 70368744177664) :
    Calls Tryd.prog 25 #[.slice A l.length c] w fun e w' => ∃ v, e = .returned v ∧ Own w' w.heap.size 5 v l ∧ Below w.heap.size w w' := by
  have Hs := hide hs
  have Hl := hide hl
  clear hs hl
  have q22 : ∀ (w : World) (a : Option Addr) (n c n' c' : Nat), (binOp .eql 38 (.slice a n c) (.slice none n' c')).run Tryd.prog w = .ok (.bool a.isNone) w := fun w a n c n' c' => Lib.run_eql_slice_nil w _ _ a n c n' c' Tryd.underlying38
  cases A with
  | none =>
    have h0 : l = [] := by
      cases l with
      | nil => rfl
      | cons b r => obtain ⟨_, _, he, _⟩ := Hs.out.2 (by simp); cases he
    subst h0
    go_enter Tryd.func25, Tryd.ntmps25
    go_wp2
    go_ret
    exact ⟨_, rfl, Own.nil _ _ _, Below.refl _ _⟩
  | some ad =>
    go_enter Tryd.func25, Tryd.ntmps25
    go_wp2_with (at_builtin; go_loud (refine wpList_cat rfl (.tmp 5) (.tmp 6) 38 rfl Tryd.underlying38 info8 w.heap.size w _ [] l Pb (some ad) c rfl rfl (Own.made w w.heap.size 5 #[] 0 (Nat.le_refl _) rfl (Nat.zero_le _)) ?qs ?ql ?qb ?qz ?_; rotate_left 4; intro v' w1 hown1 hb1 _))
    case qs => exact Hs.out.move fun b _ hb => Below.heap_alloc w _ b hb
    case ql => simpa using Hl.out
    case qb => exact (Below.refl _ _).alloc (Nat.le_refl _) _
    case qz => simp
    go_ret
    exact ⟨_, rfl, hown1, hb1⟩

set_option maxHeartbeats 1000000 in
set_option maxRecDepth 100000 in
theorem grow_nil (n : Nat) (w : World) (hn : n ≤ 70368744177664) :
    Calls Tryd.prog 51 #[.slice none 0 0, .int .i64 n] w fun e w' => ∃ v, e = .returned v ∧ Own w' w.heap.size 5 v [] ∧ Below w.heap.size w w' := by
  by_cases h0 : n = 0
  · subst h0
    go_enter Tryd.func51, Tryd.ntmps51
    go_wp2
    go_ret
    exact ⟨_, rfl, Own.nil _ _ _, Below.refl _ _⟩
  · obtain ⟨i0, hi, hz0, hz1, hz2⟩ := info_parts info8
    have hrz := fun ty => Lib.run_append_grow_zeros (P := Tryd.prog) w 38 3 ty 5 i0 (.int .u8 0) .i64 .i64 Tryd.underlying38 Tryd.underlying3 hi hz0 none 0 0 [] (run_firstCells_none w.drew i0.size 0 0 0) n (by omega) (by rw [hz1]; omega) (by omega) (by omega) (by rw [hz2]; omega)
      (by rw [hz2]; have := growslice_fits (need := 0 + n) (old := 0) (bytes := 1) (by omega) (by omega); simpa using this)
    have hG1 := grownCap_ge w (0 + n) 0 5
    have hG2 := grownCap_le_maxLen w (0 + n) 0 5 (by unfold maxLen; omega)
    obtain ⟨G, hG⟩ : ∃ G, G = grownCap w (0 + n) 0 5 := ⟨_, rfl⟩
    rw [← hG] at hrz hG1 hG2
    have hG3 := hG2
    unfold maxLen at hG3
    clear hG
    go_enter Tryd.func51, Tryd.ntmps51
    go_wp2_with (at_builtin; go_loud (refine Lib.wpList_append_run _ rfl _ _ _ _ rfl _ _ rfl rfl _ _ (hrz _) ?_))
    go_ret
    refine ⟨_, rfl, Own.drew (Own.made w w.heap.size 5 _ G (Nat.le_refl _) ?_ hG2), ((Below.refl _ _).alloc (Nat.le_refl _) _).drew⟩
    simp [Builtin.zeroCells]
    omega

/-- the cells of a list of slices of bytes -/
def cat (ls : List (List UInt8)) : List UInt8 := ls.flatten
theorem cat_take (ls : List (List UInt8)) (k : Nat) (h : k < ls.length) : cat (ls.take (k + 1)) = cat (ls.take k) ++ ls.getD k [] := by
  unfold cat
  rw [List.take_succ_eq_append_getElem h, List.flatten_append]
  simp [List.getElem?_eq_getElem h]
theorem cat_len (ls : List (List UInt8)) (k : Nat) : (cat (ls.take k)).length ≤ (cat ls).length := by
  have e : cat ls = cat (ls.take k) ++ cat (ls.drop k) := by unfold cat; rw [← List.flatten_append, List.take_append_drop]
  rw [e, List.length_append]
  omega

set_option maxHeartbeats 2000000 in
set_option maxRecDepth 100000 in
theorem concat_any (ls : List (List UInt8)) (vs : List Value) (g c : Nat) (w : World) (hv : vs.length = ls.length) (hg : Row w g 38 vs) (hc : vs.length ≤ c) (hm : vs.length < 1000)
    (hs : ∀ k, k < ls.length → Is w (fun _ => True) (vs.getD k (.bool false)) (ls.getD k [])) (hl : (cat ls).length ≤ 70368744177664) :
    Calls Tryd.prog 44 #[.slice (some ⟨g, 0, none⟩) vs.length c] w fun e w' => ∃ v, e = .returned v ∧ Own w' w.heap.size 5 v (cat ls) ∧ Below w.heap.size w w' := by
  have Hs := hide hs
  have Hl := hide hl
  have Hg := hide hg
  have Hv := hide hv
  have Hc := hide hc
  clear hs hl hg hv hc
  go_enter Tryd.func44, Tryd.ntmps44
  go_wp2
  go_loopw [3, 11] (fun s i wr => ∃ k : Nat, k ≤ vs.length ∧ i = .int .i64 k ∧ s = .int .i64 ((cat (ls.take k)).length : Nat) ∧ w = wr) (fun _ i _ => vs.length - (intOf i).toNat)
  case atStart => exact ⟨0, Nat.zero_le _, rfl, rfl, rfl⟩
  case round =>
    obtain ⟨k, hk, rfl, rfl, rfl⟩ := hrel
    by_cases hlt : k < vs.length
    · have hkl : k < ls.length := by rw [← Hv.out]; exact hlt
      obtain ⟨A, cp, hA, hsl⟩ := Hs.out k hkl
      have Hn := hide (congrArg List.length (cat_take ls k hkl))
      have hb1 := cat_len ls (k + 1)
      rw [Hn.out, List.length_append] at hb1
      have hcell : w.cell? ⟨g, k, none⟩ = some (.slice A (ls.getD k []).length cp) := by
        rw [Hg.out.cell, ← hA]; simp [List.getElem?_eq_getElem hlt]
      have Hsum := hide (Hn.out.trans List.length_append)
      clear Hn hsl
      have hb2 := Hl.out
      generalize (ls.getD k []).length = m at *
      generalize (cat (ls.take k)).length = q at *
      generalize (cat ls).length = tot at *
      go_wp2
      refine ⟨⟨k + 1, by omega, by go_num, ?_, trivial⟩, ?_⟩
      · rw [Hsum.out]; go_num
      · simp [intOf]; omega
    · obtain rfl : k = vs.length := by omega
      have e1 : ls.take vs.length = ls := List.take_of_length_le (by rw [Hv.out]; exact Nat.le_refl _)
      rw [e1]
      have hb2 := Hl.out
      have Ht := hide (show cat (ls.take vs.length) = cat ls by rw [e1])
      go_wp2_with (go_at_call 51; go_loud (refine (grow_nil _ _ hb2).mono ?_; rintro e w1 ⟨v1, rfl, hown1, hb1⟩))
      go_loopw [6, 27] (fun s i wx => ∃ k : Nat, k ≤ vs.length ∧ i = .int .i64 k ∧ Own wx w.heap.size 5 s (cat (ls.take k)) ∧ Below w.heap.size w wx) (fun _ i _ => vs.length - (intOf i).toNat)
      case atStart => exact ⟨0, Nat.zero_le _, rfl, hown1, hb1⟩
      case round =>
        clear hown1 hb1
        obtain ⟨k, hk, rfl, hown, hb⟩ := hrel
        have Hown := hide hown
        have Hb := hide hb
        clear hown hb
        by_cases hlt : k < vs.length
        · have hkl : k < ls.length := by rw [← Hv.out]; exact hlt
          obtain ⟨A, cp, hA, hsl⟩ := Hs.out k hkl
          have Hcat := hide (cat_take ls k hkl)
          have Hn := hide (congrArg List.length (cat_take ls k hkl))
          have hb1 := cat_len ls (k + 1)
          rw [Hn.out, List.length_append] at hb1
          have hcell : wr.cell? ⟨g, k, none⟩ = some (.slice A (ls.getD k []).length cp) := by
            rw [(Hg.out.below Hb.out Hg.out.lt).cell, ← hA]; simp [List.getElem?_eq_getElem hlt]
          have Hsl := hide (hsl.move (w' := wr) fun b _ hlt => Hb.out.block b hlt)
          have Hlen := hide (show (cat (ls.take k)).length + (ls.getD k []).length ≤ 70368744177664 by omega)
          clear Hn hsl hb1
          generalize ls.getD k [] = bs at *
          go_wp2_with (at_builtin; go_loud (refine wpList_cat rfl (.tmp 31) (.tmp 32) 38 rfl Tryd.underlying38 info8 w.heap.size w _ _ bs (fun _ => True) A cp rfl rfl Hown.out Hsl.out Hlen.out Hb.out Hb.out.size ?_; intro v' w2 hown2 hb2 _))
          rw [← Hcat.out] at hown2
          exact ⟨⟨k + 1, by omega, by go_num, hown2, hb2⟩, by simp [intOf]; omega⟩
        · obtain rfl : k = vs.length := by omega
          go_wp2
          go_ret
          refine ⟨_, rfl, ?_, Hb.out⟩
          rw [← Ht.out]
          exact Hown.out

end Go.Proofs.YtcmjdepjckhpdabDoor.Wr
namespace Go.Proofs.YtcmjdepjckhpdabDoor.Rg
open Go

section
variable {P : Program} {ops : Array Oper} {Q : Exit → Act → World → Prop} {S : World → Prop}

def wpOrd (P : Program) (ops : Array Oper) (Q : Exit → Act → World → Prop) (S : World → Prop) : List (Nat × Oper × Bool) → Act → World → Prop
  | [], a, w => Q .normal a w
  | (_, o, true) :: rest, a, w => ∃ v, YieldsIf P ops S o v a ∧ S w ∧ wpOrd P ops Q S rest (a.put o.dst v) w
  | (n, o, false) :: rest, a, w => (if Region.wanted o (yielded ops a.tmps) then o.wp P a w (fun a' w' => (sink ops n = false → S w') ∧ wpOrd P ops Q S rest a' w') Q else ((sink ops n = false → S w) ∧ wpOrd P ops Q S rest (a.put o.dst undef) w))

def ordFrom (ops : Array Oper) : Array Bool → List (Nat × Bool) → Bool
  | listed, [] => (Region.ready .any ops listed).isEmpty
  | listed, (n, q) :: rest => decide (n < ops.size) && (if q then (Region.ready .any ops listed).contains n && Region.free .any ops listed n && closed ops listed else Region.ready .any ops listed == [n]) && ordFrom ops (listed.setIfInBounds n true) rest
def ordPlan (ops : Array Oper) (order : List (Nat × Bool)) : Bool := inside ops && Region.noSelect ops && order.length == ops.size && ordFrom ops (Array.replicate ops.size false) order
def pick (l : List Oper) (order : List (Nat × Bool)) : List (Nat × Oper × Bool) := order.map fun x => (x.1, l.getD x.1 default, x.2)

theorem ord_sound {l : List Oper} (he : ops = l.toArray) (hin : inside ops = true) (hsel : ∀ (j : Nat) (o : Oper) cs b, ops[j]? = some o → o.op ≠ .select cs b) (hQ : ∀ c a d v w, Q (.panic c) (Act.put a d v) w → Q (.panic c) a w) :
    ∀ (order : List (Nat × Bool)) (listed : Array Bool) (a : Act) (w : World), ordFrom ops listed order = true →
      wpOrd P ops Q S (pick l order) a w → wpAnyS P ops Q S order.length listed a w
  | [], listed, a, w, hp, h => by
    simp only [ordFrom, List.isEmpty_iff] at hp
    exact ⟨hp, h⟩
  | (n, q) :: rest, listed, a, w, hp, h => by
    simp only [ordFrom, Bool.and_eq_true, decide_eq_true_eq] at hp
    obtain ⟨⟨hlt, hp1⟩, hp3⟩ := hp
    have hi : ops[n]? = some (l.getD n default) := by
      subst he
      have : n < l.length := by simpa using hlt
      simp [List.getElem?_eq_getElem this]
    have e : pick l ((n, q) :: rest) = (n, l.getD n default, q) :: pick l rest := rfl
    rw [e] at h
    cases q with
    | true =>
      simp only [if_true, Bool.and_eq_true] at hp1
      obtain ⟨v, hy, hS, h⟩ := h
      have ih := ord_sound he hin hsel hQ rest _ _ w hp3 h
      exact S_first hi hsel (fun c a w => hQ c a _ _ w) _ _ _ _ (Region.free_spec hi hp1.1.2) (by simpa using hp1.1.1) (closed_spec hp1.2 (inside_spec hin)) hy hS ih
    | false =>
      simp only [Bool.false_eq_true, if_false, beq_iff_eq] at hp1
      refine ⟨fun h0 => (by rw [h0] at hp1; cases hp1), fun i hii => ?_⟩
      rw [hp1] at hii
      obtain rfl := List.mem_singleton.1 hii
      unfold wpOp
      simp only [hi]
      simp only [wpOrd] at h
      have step : ∀ a' w', ((sink ops i = false → S w') ∧ wpOrd P ops Q S (pick l rest) a' w') →
          (sink ops i = false → S w') ∧ wpAnyS P ops Q S rest.length (listed.setIfInBounds i true) a' w' := fun a' w' h' =>
        ⟨h'.1, ord_sound he hin hsel hQ rest _ a' w' hp3 h'.2⟩
      split
      · rename_i hw
        rw [if_pos hw] at h
        exact .inl (Oper.wp_mono step h)
      · rename_i hw
        rw [if_neg hw] at h
        exact step _ _ h

/-- THE REGION, WALKED IN THE ORDER THAT IS GIVEN. -/
theorem wp_region_ord {id : Nat} {l : List Oper} {a : Act} {w : World} (S : World → Prop) (order : List (Nat × Bool)) (hm : P.follows .mixedOrders = true) (hp : ordPlan l.toArray order = true)
    (h : wpOrd P l.toArray (NoPanic Q) S (pick l order) a w.drew) : (Code.region id l.toArray true).wp P Q a w := by
  refine wp_region_noPanic ?_
  simp only [ordPlan, Bool.and_eq_true, beq_iff_eq] at hp
  obtain ⟨⟨⟨h0, h1⟩, h2⟩, h3⟩ := hp
  refine wp_region_any hm (any_of_S (S := S) _ _ _ _ ?_)
  have := ord_sound (P := P) (S := S) rfl h0 (Region.noSelect_spec h1) (fun _ _ _ _ _ h => h) order _ a w.drew h3 h
  rw [h2] at this
  exact this

theorem ord_quiet {n : Nat} {o : Oper} {rest : List (Nat × Oper × Bool)} {a : Act} {w : World} {v : Value} (hg : o.guard = none) (hy : ∀ w', S w' → (execOp a.eval o).run P w' = .ok (.value v) w') (hS : S w)
    (h : wpOrd P ops Q S rest (a.put o.dst v) w) : wpOrd P ops Q S ((n, o, true) :: rest) a w :=
  ⟨v, .inl ⟨by simp [Region.wanted, hg], hy⟩, hS, h⟩
/-- one whose guard says no -/
theorem ord_passed {n : Nat} {o : Oper} {rest : List (Nat × Oper × Bool)} {a : Act} {w : World} (hg : Region.wanted o (yielded ops a.tmps) = false) (hS : S w)
    (h : wpOrd P ops Q S rest (a.put o.dst undef) w) : wpOrd P ops Q S ((n, o, true) :: rest) a w :=
  ⟨undef, .inr ⟨hg, rfl⟩, hS, h⟩
/-- one whose guard says yes -/
theorem ord_guarded {n : Nat} {o : Oper} {rest : List (Nat × Oper × Bool)} {a : Act} {w : World} {v : Value} (hg : Region.wanted o (yielded ops a.tmps) = true) (hy : ∀ w', S w' → (execOp a.eval o).run P w' = .ok (.value v) w') (hS : S w)
    (h : wpOrd P ops Q S rest (a.put o.dst v) w) : wpOrd P ops Q S ((n, o, true) :: rest) a w :=
  ⟨v, .inl ⟨hg, hy⟩, hS, h⟩
theorem ord_loud {n : Nat} {o : Oper} {rest : List (Nat × Oper × Bool)} {a : Act} {w : World} (hg : Region.wanted o (yielded ops a.tmps) = true)
    (h : ∀ K : Act → World → Prop, (∀ a' w', (sink ops n = false → S w') → wpOrd P ops Q S rest a' w' → K a' w') → o.wp P a w K Q) : wpOrd P ops Q S ((n, o, false) :: rest) a w := by
  simp only [wpOrd]
  rw [if_pos hg]
  exact h _ fun a' w' h1 h2 => ⟨h1, h2⟩
open Kt Go.RowKit in
theorem ord_push {n : Nat} {o : Oper} {rest : List (Nat × Oper × Bool)} {a : Act} {w : World} {cs : Array Value} {E : TypeId} (W : World) (hW : w = W.alloc (.cells cs E))
    (hgd : o.guard = none) (s x : Operand) (t : TypeId) (ho : o.op = .call { callee := .builtin .append, args := #[s, x], argTypes := #[t, t] })
    (ht : P.underlying t = some (.slice E)) (hi : (P.info? E).map (fun i => (i.zero, i.size, i.bytes)) = some (some (.int .u8 0), 1, 1))
    (B : Nat) (w0 : World) (v : Value) (l news : List UInt8) (m c : Nat) (hs : a.eval s = v) (hx : a.eval x = .slice (some ⟨W.heap.size, 0, none⟩) m c)
    (hown : Own W B E v l) (hc : cs = (u8s news).toArray) (hm : m = news.length) (hlen : l.length + news.length ≤ 70368744177664) (hb : Below B w0 W) (hbase : B ≤ W.heap.size)
    (h : ∀ v' w', Own w' B E v' (l ++ news) → Below B w0 w' → W.grownBy w' v.ownBlock → (sink ops n = false → S w') ∧ wpOrd P ops Q S rest (a.put o.dst v') w') : wpOrd P ops Q S ((n, o, false) :: rest) a w := by
  subst hW
  exact ord_loud (by simp [Region.wanted, hgd]) fun K hK => wp_push s x t ho ht hi B w0 v l news m c hs hx hown hc hm hlen hb hbase fun v' w' h1 h2 h3 => hK _ _ (h v' w' h1 h2 h3).1 (h v' w' h1 h2 h3).2
theorem ord_nil {a : Act} {w : World} (h : Q .normal a w) : wpOrd P ops (NoPanic Q) S [] a w := NoPanic.normal h
end
end Go.Proofs.YtcmjdepjckhpdabDoor.Rg
namespace Go.Proofs.YtcmjdepjckhpdabDoor.Dk
open Go Go.RowKit Kt Kg Wr

abbrev tD : TypeId := 68
abbrev tU8 : TypeId := 5
/-- a disk in block g; what it is made of are blocks of S -/
def DkIn (w : World) (S : Nat → Prop) (g : Nat) (s : St) : Prop :=
  ∃ v, Row w g tD [v, .int .i64 (s.room : Int), .int .i64 s.fuse, .bool s.dead] ∧ OwnS w (fun b => S b ∧ b ≠ g) tU8 v s.k ∧ S g ∧ ∀ k, S k → k < w.heap.size
section
variable {w w' : World} {S T : Nat → Prop} {g : Nat} {s : St}
theorem DkIn.move (h : DkIn w S g s) (hk : ∀ b, S b → w'.heap[b]? = w.heap[b]?) (hsz : w.heap.size ≤ w'.heap.size) : DkIn w' S g s := by
  obtain ⟨v, h1, h2, h3, h4⟩ := h
  exact ⟨v, (hk g h3).trans h1, h2.move fun b hb _ => hk b hb.1, h3, fun k hk => Nat.lt_of_lt_of_le (h4 k hk) hsz⟩
theorem DkIn.below (h : DkIn w S g s) (hb : Below w.heap.size w w') : DkIn w' S g s := by
  have h4 := h
  obtain ⟨_, _, _, _, h4⟩ := h4
  exact h.move (fun b hS => hb.block b (h4 b hS)) hb.size
theorem DkIn.oth (h : DkIn w S g s) (ho : Oth T w w') (hd : ∀ k, S k → ¬ T k) : DkIn w' S g s := by
  have h4 := h
  obtain ⟨_, _, _, _, h4⟩ := h4
  exact h.move (fun b hS => ho.block b (h4 b hS) (hd b hS)) ho.size
theorem DkIn.lt (h : DkIn w S g s) : ∀ k, S k → k < w.heap.size := by obtain ⟨_, _, _, _, h4⟩ := h; exact h4
theorem DkIn.at (h : DkIn w S g s) : S g := by obtain ⟨_, _, _, h3, _⟩ := h; exact h3
theorem DkIn.drew (h : DkIn w S g s) : DkIn w.drew S g s := h
end

set_option maxHeartbeats 1000000 in
set_option maxRecDepth 100000 in
theorem size_any {w : World} {S : Nat → Prop} {g : Nat} {s : St} (h : DkIn w S g s) :
    Calls Tryd.prog 32 #[.pointer (some ⟨g, 0, none⟩)] w fun y w' => y = .returned (.int .i64 (s.k.length : Nat)) ∧ w = w' := by
  obtain ⟨v, hr, ho, _⟩ := h
  obtain ⟨A, c, rfl, _⟩ := ho.sl
  have c0 : w.cell? ⟨g, 0, none⟩ = some (.slice A s.k.length c) := hr.cell 0
  clear hr ho
  go_enter Tryd.func32, Tryd.ntmps32
  go_wp2
  go_ret
  exact ⟨rfl, rfl⟩
set_option maxHeartbeats 1000000 in
set_option maxRecDepth 100000 in
theorem dead_any {w : World} {S : Nat → Prop} {g : Nat} {s : St} (h : DkIn w S g s) :
    Calls Tryd.prog 18 #[.pointer (some ⟨g, 0, none⟩)] w fun y w' => y = .returned (.bool s.dead) ∧ w = w' := by
  obtain ⟨v, hr, ho, _⟩ := h
  have c0 : w.cell? ⟨g, 3, none⟩ = some (.bool s.dead) := hr.cell 3
  clear hr ho
  go_enter Tryd.func18, Tryd.ntmps18
  go_wp2
  go_ret
  exact ⟨rfl, rfl⟩
set_option maxHeartbeats 1000000 in
set_option maxRecDepth 100000 in
theorem left_any {w : World} {S : Nat → Prop} {g : Nat} {s : St} (h : DkIn w S g s) (hf : s.fit) :
    Calls Tryd.prog 37 #[.pointer (some ⟨g, 0, none⟩)] w fun y w' => y = .returned (.int .i64 ((s.room - s.k.length : Nat) : Int)) ∧ ∃ n, w' = w.drewN n := by
  have hz : ∀ n, Calls Tryd.prog 32 #[.pointer (some ⟨g, 0, none⟩)] (w.drewN n) fun y w' => y = .returned (.int .i64 (s.k.length : Nat)) ∧ w.drewN n = w' := fun n => size_any (show DkIn (w.drewN n) S g s from h)
  obtain ⟨v, hr, ho, _⟩ := h
  have c0 : w.cell? ⟨g, 1, none⟩ = some (.int .i64 (s.room : Int)) := hr.cell 1
  obtain ⟨h1, h2, _⟩ := hf
  obtain ⟨N, hN⟩ : ∃ N, N = s.k.length := ⟨_, rfl⟩
  obtain ⟨M, hM⟩ : ∃ N, N = s.room := ⟨_, rfl⟩
  rw [← hN] at hz h1 ⊢
  rw [← hM] at c0 h1 h2 ⊢
  have hsub : ((M - N : Nat) : Int) = (M : Int) - (N : Int) := by omega
  rw [hsub]
  have hw : IntKind.i64.wrap ((M : Int) - (N : Int)) = (M : Int) - (N : Int) := IntWalk.i64_in _ (by omega)
  have Hz := hide hz
  clear hr ho hN hM hsub hz
  go_enter Tryd.func37, Tryd.ntmps37
  go_wp2
  refine Rg.wp_region_ord (fun w' => w'.cell? ⟨g, 1, none⟩ = some (.int .i64 (M : Int))) [(0, true), (1, true), (2, true), (3, true), (4, true), (5, false), (6, true), (7, true)] (by kernel_rfl) (by kernel_rfl) ?_
  simp only [Rg.pick, List.map_cons, List.map_nil, List.getD_cons_zero, List.getD_cons_succ]
  iterate 5 (refine Rg.ord_quiet (v := ?_) rfl (fun w' hS => ?_) c0 ?_; rotate_left; (go_simp; with_reducible rfl); simp only [Act.put, List.setIfInBounds_toArray, List.set_cons_succ, List.set_cons_zero])
  refine Rg.ord_loud rfl (fun K hK => ?_)
  go_simp
  refine (Hz.out 1).mono ?_
  rintro y w1 ⟨rfl, rfl⟩
  refine hK _ _ (fun _ => c0) ?_
  clear hK K
  iterate 2 (refine Rg.ord_quiet (v := ?_) rfl (fun w' hS => ?_) c0 ?_; rotate_left; (go_simp; with_reducible rfl); simp only [Act.put, List.setIfInBounds_toArray, List.set_cons_succ, List.set_cons_zero])
  refine Rg.ord_nil ?_
  go_wp2
  go_ret
  exact ⟨by simp, 1, rfl⟩
set_option maxHeartbeats 1000000 in
set_option maxRecDepth 100000 in
theorem bytes_call {w : World} {S : Nat → Prop} {g : Nat} {s : St} (h : DkIn w S g s) (hf : s.fit) :
    Calls Tryd.prog 10 #[.pointer (some ⟨g, 0, none⟩)] w fun y w' => ∃ v, y = .returned v ∧ Own w' w.heap.size tU8 v s.k ∧ Below w.heap.size w w' := by
  obtain ⟨v, hr, ho, _⟩ := h
  obtain ⟨A, c, rfl, hs⟩ := ho.sl
  have c0 : w.cell? ⟨g, 0, none⟩ = some (.slice A s.k.length c) := hr.cell 0
  have HC := hide (clone_any s.k A c _ w hs (by have := hf.1; have := hf.2.1; omega))
  clear hr ho hs
  go_enter Tryd.func10, Tryd.ntmps10
  go_wp2_with fail
  refine HC.out.mono ?_
  rintro y w1 ⟨v, rfl, h1, h2⟩
  have H1 := hide h1
  have H2 := hide h2
  clear h1 h2 HC c0
  go_wp2
  go_ret
  exact ⟨_, rfl, H1.out, H2.out⟩
set_option maxHeartbeats 1000000 in
set_option maxRecDepth 100000 in
theorem new_yes (n : Nat) (hn : n ≤ 16777216) (w : World) :
    Calls Tryd.prog 13 #[.int .i64 (n : Int)] w fun y w' => ∃ g, y = .returned (.tuple #[.pointer (some ⟨g, 0, none⟩), .int .i64 0]) ∧ DkIn w' (· = g) g (new n) ∧ g = w.heap.size ∧ Below w.heap.size w w' := by
  go_enter Tryd.func13, Tryd.ntmps13
  go_wp2
  refine bodyPost_ret (results_tmp2 rfl _ _ _) rfl ⟨w.heap.size, rfl, ⟨_, Row.fresh w tD #[.slice none 0 0, .int .i64 (n : Int), .int .i64 (-1), .bool false], OwnS.nil _ _ _, rfl, fun k hk => ?_⟩, rfl, (Below.refl _ w).alloc (Nat.le_refl _) _⟩
  rw [hk, World.size_alloc]
  exact Nat.lt_succ_self _
set_option maxHeartbeats 1000000 in
set_option maxRecDepth 100000 in
theorem new_no (n : Int) (hn : n < 0 ∨ 16777216 < n) (w : World) :
    Calls Tryd.prog 13 #[.int .i64 n] w fun y w' => y = .returned (.tuple #[.pointer none, .int .i64 1]) ∧ w' = w := by
  by_cases h : n < 0
  · go_enter Tryd.func13, Tryd.ntmps13
    go_wp2
    exact bodyPost_ret (results_tmp2 rfl _ _ _) rfl ⟨rfl, rfl⟩
  · have h2 : 16777216 < n := hn.resolve_left h
    clear hn
    go_enter Tryd.func13, Tryd.ntmps13
    go_wp2
    exact bodyPost_ret (results_tmp2 rfl _ _ _) rfl ⟨rfl, rfl⟩
end Go.Proofs.YtcmjdepjckhpdabDoor.Dk
