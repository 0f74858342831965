/-
  The program's graph, on lists: who waits stands behind one parent that isn't in. No program is named here.
-/
import Derived.Test.YtplmcpdlommmaaaQDC
import Derived.MapKept
import Derived.RangeFuncRecord
import Derived.Carry
import Derived.Sort.KeysCollected
import Derived.Test.YtplmcpdlommmaaaQDF
namespace Go.Proofs.Ytplmcpdlommmaaa.Dq
open Go Tr

def upd {α : Type} (f : Bs → α) (k : Bs) (v : α) : Bs → α := fun j => if j = k then v else f j
theorem upd_same {α : Type} (f : Bs → α) (k : Bs) (v : α) : upd f k v k = v := by simp [upd]
theorem upd_ne {α : Type} (f : Bs → α) {k j : Bs} (v : α) (h : j ≠ k) : upd f k v j = f j := by simp [upd, h]
/-- who waits: those that may come in, those that are looked at, and the others, each behind a parent that isn't in -/
structure Kp (D : List Nd) (su : Bs → Nat) (bh : Bs → List Bs) (nx hg : List Bs) : Prop where
  inv : Inv D
  sure : ∀ n ∈ D, n.on = false → ∀ j p, j < su n.id → n.ps[j]? = some p → has D p = true
  all : ∀ n ∈ D, n.on = false → n.id ∈ nx ∨ n.id ∈ hg ∨ ∃ p, n.id ∈ bh p
  next : ∀ x ∈ nx, ∃ n ∈ D, n.id = x ∧ n.on = false ∧ ready D n.ps = true
  hung : ∀ x ∈ hg, (∃ n ∈ D, n.id = x ∧ n.on = false) ∧ x ∉ nx ∧ ∀ p, x ∉ bh p
  behind : ∀ p, ∀ x ∈ bh p, has D p = false ∧ ∃ n ∈ D, n.id = x ∧ n.on = false ∧ n.ps[su x]? = some p
  once : nx.Nodup ∧ hg.Nodup ∧ ∀ p, (bh p).Nodup
  bnd : ∀ n ∈ D, n.on = false → su n.id ≤ n.ps.length
theorem Kp.perm {D : List Nd} {su : Bs → Nat} {bh : Bs → List Bs} {nx nx' hg : List Bs} (K : Kp D su bh nx hg) (h : nx.Perm nx') : Kp D su bh nx' hg := by
  obtain ⟨h1, h2, h3, h4, h5, h6, ⟨h7, h8, h9⟩, hB⟩ := K
  refine ⟨h1, h2, fun n hn ho => ?_, fun x hx => h4 x (h.mem_iff.2 hx), fun x hx => ?_, h6, ⟨h.nodup_iff.1 h7, h8, h9⟩, hB⟩
  · rcases h3 n hn ho with k | k
    · exact .inl (h.mem_iff.1 k)
    · exact .inr k
  · obtain ⟨q1, q2, q3⟩ := h5 x hx
    exact ⟨q1, fun hx' => q2 (h.mem_iff.2 hx'), q3⟩
section
variable {D : List Nd} {su : Bs → Nat} {bh : Bs → List Bs} {nx r : List Bs} {x : Bs} {n : Nd}
/-- the one that is looked at, as a node -/
theorem Kp.node {hg : List Bs} (K : Kp D su bh nx hg) (hx : x ∈ hg) : ∃ n ∈ D, n.id = x ∧ n.on = false := (K.hung x hx).1
theorem Kp.off {hg : List Bs} (K : Kp D su bh nx hg) (hx : x ∈ hg) (hn : n ∈ D) (he : n.id = x) : n.on = false := by
  obtain ⟨m, hm, e, ho⟩ := K.node hx
  rw [up_once K.inv.up hn hm (he.trans e.symm)]
  exact ho
/-- it stands behind a parent that isn't in -/
theorem Kp.wait (K : Kp D su bh nx (x :: r)) (hn : n ∈ D) (he : n.id = x) {j : Nat} {p : Bs} (hj : su x ≤ j) (hs : ∀ i q, su x ≤ i → i < j → n.ps[i]? = some q → has D q = true) (hp : n.ps[j]? = some p) (ho : has D p = false) :
    Kp D (upd su x j) (upd bh p (bh p ++ [x])) nx r := by
  have hoff := K.off List.mem_cons_self hn he
  obtain ⟨h1, h2, h3, h4, h5, h6, ⟨h7, h8, h9⟩, hB⟩ := K
  obtain ⟨_, hx2, hx3⟩ := h5 x List.mem_cons_self
  obtain ⟨n1, n2⟩ := List.nodup_cons.1 h8
  refine ⟨h1, fun m hm hmo i q hi hq => ?_, fun m hm hmo => ?_, h4, fun y hy => ?_, fun q y hy => ?_, ⟨h7, n2, fun q => ?_⟩, fun m hm hmo => ?_⟩
  · by_cases e : m.id = x
    · obtain rfl : m = n := up_once h1.up hm hn (e.trans he.symm)
      rw [e, upd_same] at hi
      by_cases hl : i < su x
      · exact h2 m hm hmo i q (by rw [e]; exact hl) hq
      · exact hs i q (by omega) hi hq
    · rw [upd_ne _ _ e] at hi
      exact h2 m hm hmo i q hi hq
  · rcases h3 m hm hmo with k | k | ⟨q, k⟩
    · exact .inl k
    · rcases List.mem_cons.1 k with k | k
      · exact .inr (.inr ⟨p, by rw [upd_same, k]; simp⟩)
      · exact .inr (.inl k)
    · refine .inr (.inr ⟨q, ?_⟩)
      by_cases e : q = p
      · subst e; rw [upd_same]; exact List.mem_append_left _ k
      · rw [upd_ne _ _ e]; exact k
  · obtain ⟨q1, q2, q3⟩ := h5 y (List.mem_cons_of_mem _ hy)
    refine ⟨q1, q2, fun q hq => ?_⟩
    by_cases e : q = p
    · subst e
      rw [upd_same] at hq
      rcases List.mem_append.1 hq with k | k
      · exact q3 q k
      · have : y = x := by simpa using k
        exact n1 (this ▸ hy)
    · rw [upd_ne _ _ e] at hq; exact q3 q hq
  · by_cases e : q = p
    · subst e
      rw [upd_same] at hy
      rcases List.mem_append.1 hy with k | k
      · have hyx : y ≠ x := fun e => hx3 q (e ▸ k)
        obtain ⟨q1, m, q2, q3, q4, q5⟩ := h6 q y k
        exact ⟨q1, m, q2, q3, q4, by rw [upd_ne _ _ hyx]; exact q5⟩
      · have hyx : y = x := by simpa using k
        subst hyx
        exact ⟨ho, n, hn, he, hoff, by rw [upd_same]; exact hp⟩
    · rw [upd_ne _ _ e] at hy
      have hyx : y ≠ x := fun e => hx3 q (e ▸ hy)
      obtain ⟨q1, m, q2, q3, q4, q5⟩ := h6 q y hy
      exact ⟨q1, m, q2, q3, q4, by rw [upd_ne _ _ hyx]; exact q5⟩
  · by_cases e : q = p
    · subst e
      rw [upd_same]
      refine List.nodup_append.2 ⟨h9 q, by simp, fun a ha b hb hab => ?_⟩
      have : b = x := by simpa using hb
      exact hx3 q (by rw [← this, ← hab]; exact ha)
    · rw [upd_ne _ _ e]; exact h9 q
  · by_cases e : m.id = x
    · obtain rfl : m = n := up_once h1.up hm hn (e.trans he.symm)
      rw [e, upd_same]
      have := (List.getElem?_eq_some_iff.1 hp).1
      omega
    · rw [upd_ne _ _ e]; exact hB m hm hmo
/-- it may come in -/
theorem Kp.go (K : Kp D su bh nx (x :: r)) (hn : n ∈ D) (he : n.id = x) (hs : ∀ i q, su x ≤ i → n.ps[i]? = some q → has D q = true) : Kp D su bh (nx ++ [x]) r := by
  have hoff := K.off List.mem_cons_self hn he
  obtain ⟨h1, h2, h3, h4, h5, h6, ⟨h7, h8, h9⟩, hB⟩ := K
  obtain ⟨_, hx2, hx3⟩ := h5 x List.mem_cons_self
  obtain ⟨n1, n2⟩ := List.nodup_cons.1 h8
  refine ⟨h1, h2, fun m hm hmo => ?_, fun y hy => ?_, fun y hy => ?_, h6, ⟨?_, n2, h9⟩, hB⟩
  · rcases h3 m hm hmo with k | k | k
    · exact .inl (List.mem_append_left _ k)
    · rcases List.mem_cons.1 k with k | k
      · exact .inl (by rw [k]; simp)
      · exact .inr (.inl k)
    · exact .inr (.inr k)
  · rcases List.mem_append.1 hy with k | k
    · exact h4 y k
    · have : y = x := by simpa using k
      subst this
      refine ⟨n, hn, he, hoff, ready_iff.2 fun p hp => ?_⟩
      obtain ⟨i, hi⟩ := List.mem_iff_getElem?.1 hp
      by_cases hl : i < su y
      · exact h2 n hn hoff i p (by rw [he]; exact hl) hi
      · exact hs i p (by omega) hi
  · obtain ⟨q1, q2, q3⟩ := h5 y (List.mem_cons_of_mem _ hy)
    refine ⟨q1, fun k => ?_, q3⟩
    rcases List.mem_append.1 k with k | k
    · exact q2 k
    · have : y = x := by simpa using k
      exact n1 (this ▸ hy)
  · refine List.nodup_append.2 ⟨h7, by simp, fun a ha b hb hab => ?_⟩
    have : b = x := by simpa using hb
    exact hx2 (by rw [← this, ← hab]; exact ha)
/-- who waits, and needn't, may come in -/
theorem Kp.free (K : Kp D su bh nx []) (hn : n ∈ D) (ho : n.on = false) (hr : ready D n.ps = true) : n.id ∈ nx := by
  rcases K.all n hn ho with k | k | ⟨p, k⟩
  · exact k
  · cases k
  · obtain ⟨q1, m, q2, q3, q4, q5⟩ := K.behind p _ k
    obtain rfl : m = n := up_once K.inv.up q2 hn q3
    rw [ready_iff.1 hr p (List.mem_of_getElem? q5)] at q1
    cases q1
theorem Kp.full (K : Kp D su bh [] []) : nxt D = none := by
  refine nxt_over fun j m hj => ?_
  cases ho : m.on with
  | true => exact .inl rfl
  | false =>
    cases hr : ready D m.ps with
    | false => exact .inr rfl
    | true => exact absurd (K.free (List.mem_of_getElem? hj) ho hr) (by simp)
theorem has_turn (hu : Up (D.map Nd.id)) {i : Nat} (hi : D[i]? = some n) (q : Bs) : has (turnOn D i) q = true ↔ has D q = true ∨ q = n.id := by
  have hu' : Up ((turnOn D i).map Nd.id) := by rw [turnOn_ids]; exact hu
  rw [has_iff hu', has_iff hu]
  constructor
  · rintro ⟨m, hm, e, ho⟩
    rcases (turnOn_mem hu hi).1 hm with ⟨k, _⟩ | k
    · exact .inl ⟨m, k, e, ho⟩
    · subst k; exact .inr e.symm
  · rintro (⟨m, hm, e, ho⟩ | rfl)
    · by_cases hx : m.id = n.id
      · exact ⟨_, (turnOn_mem hu hi).2 (.inr rfl), by rw [← hx]; exact e, rfl⟩
      · exact ⟨m, (turnOn_mem hu hi).2 (.inl ⟨hm, hx⟩), e, ho⟩
    · exact ⟨_, (turnOn_mem hu hi).2 (.inr rfl), rfl, rfl⟩
theorem up_at (hu : Up (D.map Nd.id)) {i j : Nat} {m : Nd} (hi : D[i]? = some n) (hj : D[j]? = some m) (h : j < i) : lt m.id n.id = true := by
  have hil := (List.getElem?_eq_some_iff.1 hi).1
  have hjl := (List.getElem?_eq_some_iff.1 hj).1
  have := List.pairwise_iff_getElem.1 hu j i (by simpa using hjl) (by simpa using hil) h
  simpa [(List.getElem?_eq_some_iff.1 hi).2, (List.getElem?_eq_some_iff.1 hj).2] using this
/-- the least one of those that may comes in -/
theorem Kp.enter {nx' : List Bs} (K : Kp D su bh nx []) (hp : nx.Perm (x :: nx')) (hm : ∀ y ∈ nx', lt y x = false) :
    ∃ i n, D[i]? = some n ∧ n.id = x ∧ n.on = false ∧ ready D n.ps = true ∧ nxt D = some i ∧ Kp (turnOn D i) su (upd bh x []) nx' (bh x) := by
  have K' := K.perm hp
  obtain ⟨n, hn, he, ho, hr⟩ := K'.next x List.mem_cons_self
  obtain ⟨i, hi⟩ := List.mem_iff_getElem?.1 hn
  have hu := K.inv.up
  have hnx : nxt D = some i := by
    refine nxt_here hi ho hr fun j m hj hjm => ?_
    cases hmo : m.on with
    | true => exact .inl rfl
    | false =>
      cases hmr : ready D m.ps with
      | false => exact .inr rfl
      | true =>
        exfalso
        have hl := up_at hu hi hjm hj
        rw [he] at hl
        rcases List.mem_cons.1 (K'.free (List.mem_of_getElem? hjm) hmo hmr) with k | k
        · rw [k, lt_irr] at hl; cases hl
        · rw [hm _ k] at hl; cases hl
  refine ⟨i, n, hi, he, ho, hr, hnx, ?_⟩
  obtain ⟨h1, h2, h3, h4, h5, h6, ⟨h7, h8, h9⟩, hB⟩ := K'
  obtain ⟨n1, n2⟩ := List.nodup_cons.1 h7
  have hh := has_turn hu hi
  have hhm : ∀ q, has D q = true → has (turnOn D i) q = true := fun q hq => (hh q).2 (.inl hq)
  have hw : ∀ m, m ∈ turnOn D i → m.on = false → m ∈ D ∧ m.id ≠ x := fun m hm hmo => by
    rcases (turnOn_mem hu hi).1 hm with k | k
    · exact ⟨k.1, he ▸ k.2⟩
    · subst k; cases hmo
  have hin : ∀ m, m ∈ D → m.id ≠ x → m ∈ turnOn D i := fun m hm hne => (turnOn_mem hu hi).2 (.inl ⟨hm, by rw [he]; exact hne⟩)
  have hbx : ∀ p y, y ∈ bh p → y ≠ x := fun p y hy e => by
    subst e
    obtain ⟨q1, m, q2, q3, q4, q5⟩ := h6 p y hy
    obtain rfl : m = n := up_once hu q2 hn (q3.trans he.symm)
    rw [ready_iff.1 hr p (List.mem_of_getElem? q5)] at q1
    cases q1
  refine ⟨(h1.turn hnx).1, fun m hm hmo j q hj hq => hhm q (h2 m (hw m hm hmo).1 hmo j q hj hq), fun m hm hmo => ?_, fun y hy => ?_, fun y hy => ?_, fun p y hy => ?_, ⟨n2, h9 x, fun p => ?_⟩, fun m hm hmo => hB m (hw m hm hmo).1 hmo⟩
  · obtain ⟨k1, k2⟩ := hw m hm hmo
    rcases h3 m k1 hmo with k | k | ⟨p, k⟩
    · rcases List.mem_cons.1 k with k | k
      · exact absurd k k2
      · exact .inl k
    · cases k
    · by_cases e : p = x
      · subst e; exact .inr (.inl k)
      · exact .inr (.inr ⟨p, by rw [upd_ne _ _ e]; exact k⟩)
  · obtain ⟨m, q1, q2, q3, q4⟩ := h4 y (List.mem_cons_of_mem _ hy)
    exact ⟨m, hin m q1 (fun e => n1 (by rw [← e, q2]; exact hy)), q2, q3, ready_iff.2 fun p hp => hhm p (ready_iff.1 q4 p hp)⟩
  · obtain ⟨q1, m, q2, q3, q4, q5⟩ := h6 x y hy
    refine ⟨⟨m, hin m q2 (by rw [q3]; exact hbx x y hy), q3, q4⟩, fun k => ?_, fun p k => ?_⟩
    · obtain ⟨m', e1, e2, e3, e4⟩ := h4 y (List.mem_cons_of_mem _ k)
      obtain rfl : m' = m := up_once hu e1 q2 (e2.trans q3.symm)
      rw [ready_iff.1 e4 x (List.mem_of_getElem? q5)] at q1
      cases q1
    · by_cases e : p = x
      · rw [e, upd_same] at k; cases k
      · rw [upd_ne _ _ e] at k
        obtain ⟨e1, m', e2, e3, e4, e5⟩ := h6 p y k
        obtain rfl : m' = m := up_once hu e2 q2 (e3.trans q3.symm)
        rw [q5] at e5
        exact e (by injection e5 with e5; exact e5.symm)
  · by_cases e : p = x
    · rw [e, upd_same] at hy; cases hy
    · rw [upd_ne _ _ e] at hy
      obtain ⟨q1, m, q2, q3, q4, q5⟩ := h6 p y hy
      refine ⟨?_, m, hin m q2 (by rw [q3]; exact hbx p y hy), q3, q4, q5⟩
      rw [Bool.eq_false_iff]
      intro k
      rcases (hh p).1 k with k | k
      · rw [q1] at k; cases k
      · exact e (k.trans he)
  · by_cases e : p = x
    · rw [e, upd_same]; exact List.nodup_nil
    · rw [upd_ne _ _ e]; exact h9 p
theorem insN_inv (h : Inv D) {id : Bs} (ps : List Bs) (hg : get D id = none) : Inv (insN ⟨id, ps, false⟩ D) := by
  have hx := get_none hg
  have hh : ∀ q, has (insN ⟨id, ps, false⟩ D) q = has D q := insN_has h.up hx rfl
  obtain ⟨up, r, r1, r2⟩ := h
  refine ⟨insN_up up hx, r, fun n hn ho => ?_, fun n hn ho p hp => ?_⟩
  · rcases insN_mem.1 hn with rfl | k
    · cases ho
    · have e := insN_cnt ⟨id, ps, false⟩ D
      have := r1 n k ho
      have : r n.id < cnt D := this
      show r n.id < cnt _
      rw [e]
      simpa using this
  · rcases insN_mem.1 hn with rfl | k
    · cases ho
    · rw [hh]; exact r2 n k ho p hp
theorem Kp.start (K : Kp D su bh [] []) {id : Bs} (ps : List Bs) (hg : get D id = none) : Kp (insN ⟨id, ps, false⟩ D) (upd su id 0) bh [] [id] := by
  have hx := get_none hg
  have hi := insN_inv K.inv ps hg
  obtain ⟨h1, h2, h3, h4, h5, h6, ⟨h7, h8, h9⟩, hB⟩ := K
  have hh : ∀ q, has (insN ⟨id, ps, false⟩ D) q = has D q := insN_has h1.up hx rfl
  refine ⟨hi, fun n hn ho j p hj hp => ?_, fun n hn ho => ?_, fun y hy => (by cases hy), fun y hy => ?_, fun p y hy => ?_, ⟨List.nodup_nil, by simp, h9⟩, fun n hn ho => ?_⟩
  · rcases insN_mem.1 hn with rfl | k
    · rw [show (⟨id, ps, false⟩ : Nd).id = id from rfl, upd_same] at hj
      exact absurd hj (Nat.not_lt_zero _)
    · rw [upd_ne _ _ (hx n k)] at hj
      rw [hh]; exact h2 n k ho j p hj hp
  · rcases insN_mem.1 hn with rfl | k
    · exact .inr (.inl (by simp))
    · rcases h3 n k ho with q | q | q
      · cases q
      · cases q
      · exact .inr (.inr q)
  · have : y = id := by simpa using hy
    subst this
    refine ⟨⟨_, insN_mem.2 (.inl rfl), rfl, rfl⟩, by simp, fun p k => ?_⟩
    obtain ⟨_, m, q2, q3, _⟩ := h6 p y k
    exact hx m q2 q3
  · obtain ⟨q1, m, q2, q3, q4, q5⟩ := h6 p y hy
    refine ⟨by rw [hh]; exact q1, m, insN_mem.2 (.inr q2), q3, q4, ?_⟩
    rw [upd_ne _ _ (fun e => hx m q2 (q3.trans e))]; exact q5
  · rcases insN_mem.1 hn with rfl | k
    · rw [show (⟨id, ps, false⟩ : Nd).id = id from rfl, upd_same]; exact Nat.zero_le _
    · rw [upd_ne _ _ (hx n k)]; exact hB n k ho
end
theorem Kp.nil (su : Bs → Nat) : Kp [] su (fun _ => []) [] [] :=
  ⟨empty_inv.1, fun n hn => (by cases hn), fun n hn => (by cases hn), fun x hx => (by cases hx), fun x hx => (by cases hx), fun p x hx => (by cases hx), ⟨List.nodup_nil, List.nodup_nil, fun _ => List.nodup_nil⟩, fun n hn => (by cases hn)⟩
theorem insN_on (id : Bs) (ps : List Bs) : ∀ D : List Nd, ∃ i, (insN ⟨id, ps, false⟩ D)[i]? = some ⟨id, ps, false⟩ ∧ turnOn (insN ⟨id, ps, false⟩ D) i = insN ⟨id, ps, true⟩ D
  | [] => ⟨0, rfl, rfl⟩
  | y :: r => by
    unfold insN
    split
    · exact ⟨0, rfl, rfl⟩
    · obtain ⟨i, h1, h2⟩ := insN_on id ps r
      refine ⟨i + 1, by simpa using h1, ?_⟩
      unfold turnOn at h2 ⊢
      rw [List.modify_succ_cons, h2]
/-- what Add does, told by fill alone -/
theorem add_fill {D : List Nd} (h : Inv D) (hf : Full D) {id : Bs} (ps : List Bs) (hg : get D id = none) : Dq.add D id ps = fill (D.length + 2) (insN ⟨id, sortIds ps, false⟩ D) [] := by
  have hx := get_none hg
  have hh : ∀ q, has (insN ⟨id, sortIds ps, false⟩ D) q = has D q := insN_has h.up hx rfl
  have hr : ∀ l, ready (insN ⟨id, sortIds ps, false⟩ D) l = ready D l := fun l => by
    rw [Bool.eq_iff_iff, ready_iff, ready_iff]
    exact ⟨fun k p hp => by rw [← hh]; exact k p hp, fun k p hp => by rw [hh]; exact k p hp⟩
  have hold : ∀ m ∈ insN ⟨id, sortIds ps, false⟩ D, m.id ≠ id → m.on = true ∨ ready (insN ⟨id, sortIds ps, false⟩ D) m.ps = false := fun m hm hne => by
    rcases insN_mem.1 hm with rfl | k
    · exact absurd rfl hne
    · rw [hr]
      cases ho : m.on with
      | true => exact .inl rfl
      | false => exact .inr (hf m k ho)
  unfold Dq.add
  rw [hg]
  simp only [Option.isSome_none, Bool.false_eq_true, if_false]
  cases hrd : ready D (sortIds ps) with
  | false =>
    rw [if_neg (by simp)]
    rw [fill_none (nxt_over fun j m hj => ?_)]
    by_cases e : m.id = id
    · refine .inr ?_
      rcases insN_mem.1 (List.mem_of_getElem? hj) with rfl | k
      · rw [hr]; exact hrd
      · exact absurd e (hx m k)
    · exact hold m (List.mem_of_getElem? hj) e
  | true =>
    rw [if_pos rfl]
    obtain ⟨i, h1, h2⟩ := insN_on id (sortIds ps) D
    have hn : nxt (insN ⟨id, sortIds ps, false⟩ D) = some i := nxt_here h1 rfl (by rw [hr]; exact hrd) fun j m hj hjm => by
      refine hold m (List.mem_of_getElem? hjm) fun e => ?_
      have := up_at (insN_up h.up hx) h1 hjm hj
      rw [e] at this
      simp [lt_irr] at this
    rw [fill_some hn h1, h2]
    rfl
/-! ### Levels, heads -/
def Lv (D : List Nd) (lev : Bs → Nat) : Prop := ∀ n ∈ D, n.on = true → lev n.id = (n.ps.map fun p => lev p + 1).foldl max 0
theorem Lv.eq {D : List Nd} {lev : Bs → Nat} (h : Inv D) (hl : Lv D lev) {a : Bs} (ha : has D a = true) : lv D.length D a = lev a := by
  obtain ⟨r, r1, r2⟩ := h.ranked
  have key : ∀ k a, r a < k → has D a = true → lv D.length D a = lev a := by
    intro k
    induction k with
    | zero => intro a h; exact absurd h (Nat.not_lt_zero _)
    | succ k ih =>
      intro a hk ha
      obtain ⟨n, hn, rfl, ho⟩ := (has_iff h.up).1 ha
      rw [lv_eq h ha, parents_of h.up hn, if_pos ho, hl n hn ho]
      congr 1
      refine List.map_congr_left fun p hp => ?_
      have hpp : p ∈ parents D n.id := by rw [parents_of h.up hn, if_pos ho]; exact hp
      rw [ih p (by have := r2 _ _ hpp; omega) (parents_in h hpp).1]
  exact key _ a (Nat.lt_succ_self _) ha
theorem Lv.nil (lev : Bs → Nat) : Lv [] lev := fun n hn => by cases hn
theorem Lv.ins {D : List Nd} {lev : Bs → Nat} (hl : Lv D lev) (id : Bs) (ps : List Bs) : Lv (insN ⟨id, ps, false⟩ D) lev := fun n hn ho => by
  rcases insN_mem.1 hn with rfl | k
  · cases ho
  · exact hl n k ho
theorem Lv.turn {D : List Nd} {lev : Bs → Nat} (h : Inv D) (hl : Lv D lev) {i : Nat} {n : Nd} (hi : D[i]? = some n) (ho : n.on = false) (hr : ready D n.ps = true) : Lv (turnOn D i) (upd lev n.id ((n.ps.map fun p => lev p + 1).foldl max 0)) := by
  have hn : n ∈ D := List.mem_of_getElem? hi
  have hno : has D n.id = false := by rw [has_of h.up hn]; exact ho
  have hps : ∀ l : List Bs, (∀ p ∈ l, has D p = true) → (l.map fun p => upd lev n.id ((n.ps.map fun p => lev p + 1).foldl max 0) p + 1) = l.map fun p => lev p + 1 := fun l hl => by
    refine List.map_congr_left fun p hp => ?_
    rw [upd_ne _ _ (fun e => by have := hl p hp; rw [e, hno] at this; cases this)]
  intro m hm hmo
  rcases (turnOn_mem h.up hi).1 hm with ⟨k1, k2⟩ | k
  · rw [upd_ne _ _ k2, hl m k1 hmo, hps m.ps fun p hp => ?_]
    obtain ⟨r, _, r2⟩ := h.rank
    exact (r2 m k1 hmo p hp).1
  · subst k
    show upd lev n.id _ n.id = _
    rw [upd_same, hps n.ps (ready_iff.1 hr)]
theorem heads_ins {D : List Nd} (h : Inv D) {id : Bs} (ps : List Bs) (hg : get D id = none) (a : Bs) : a ∈ heads (insN ⟨id, ps, false⟩ D) ↔ a ∈ heads D := by
  have hi := insN_inv h ps hg
  have hx := get_none hg
  have hh : ∀ q, has (insN ⟨id, ps, false⟩ D) q = has D q := insN_has h.up hx rfl
  have hp : ∀ b, parents (insN ⟨id, ps, false⟩ D) b = parents D b := fun b => by
    cases hb : has D b with
    | false => rw [parents_not hb, parents_not (by rw [hh]; exact hb)]
    | true =>
      obtain ⟨n, hn, rfl, ho⟩ := (has_iff h.up).1 hb
      rw [parents_of h.up hn, parents_of hi.up (insN_mem.2 (.inr hn))]
  rw [heads_mem hi.up, heads_mem h.up, hh]
  simp only [hp]
theorem parents_turn {D : List Nd} (h : Inv D) {i : Nat} {n : Nd} (hi : D[i]? = some n) (b : Bs) : parents (turnOn D i) b = if b = n.id then n.ps else parents D b := by
  have hu' : Up ((turnOn D i).map Nd.id) := by rw [turnOn_ids]; exact h.up
  by_cases e : b = n.id
  · rw [if_pos e, e]
    exact (parents_of hu' ((turnOn_mem h.up hi).2 (.inr rfl)))
  · rw [if_neg e]
    cases hb : has D b with
    | false => rw [parents_not hb, parents_not ?_]; rw [Bool.eq_false_iff]; intro k; rcases (has_turn h.up hi b).1 k with k | k
               · rw [hb] at k; cases k
               · exact e k
    | true =>
      obtain ⟨m, hm, rfl, ho⟩ := (has_iff h.up).1 hb
      rw [parents_of h.up hm, parents_of hu' ((turnOn_mem h.up hi).2 (.inl ⟨hm, e⟩))]
theorem heads_turn {D : List Nd} (h : Inv D) {i : Nat} {n : Nd} (hi : D[i]? = some n) (ho : n.on = false) (hr : ready D n.ps = true) (a : Bs) : a ∈ heads (turnOn D i) ↔ a = n.id ∨ (a ∈ heads D ∧ a ∉ n.ps) := by
  have hn : n ∈ D := List.mem_of_getElem? hi
  have hno : has D n.id = false := by rw [has_of h.up hn]; exact ho
  have hu' : Up ((turnOn D i).map Nd.id) := by rw [turnOn_ids]; exact h.up
  rw [heads_mem hu', heads_mem h.up, has_turn h.up hi]
  simp only [parents_turn h hi]
  constructor
  · rintro ⟨k1, k2⟩
    by_cases e : a = n.id
    · exact .inl e
    · refine .inr ⟨⟨k1.resolve_right e, fun b hb => ?_⟩, ?_⟩
      · have hbn : b ≠ n.id := fun e' => by rw [e', parents_not hno] at hb; cases hb
        have := k2 b
        rw [if_neg hbn] at this
        exact this hb
      · have := k2 n.id
        rwa [if_pos rfl] at this
  · rintro (rfl | ⟨⟨k1, k2⟩, k3⟩)
    · refine ⟨.inr rfl, fun b hb => ?_⟩
      split at hb
      · have := ready_iff.1 hr _ hb; rw [hno] at this; cases this
      · have := (parents_in h hb).1; rw [hno] at this; cases this
    · refine ⟨.inl k1, fun b hb => ?_⟩
      split at hb
      · exact k3 hb
      · exact k2 b hb
end Go.Proofs.Ytplmcpdlommmaaa.Dq
namespace Go.Proofs.Ytplmcpdlommmaaa.Dq
open Go Go.RowKit Go.MapKept Kt Kg Lw Tr

abbrev kS (k : Bs) : Value := .string ⟨k.toArray⟩
theorem kS_inj {x y : Bs} (h : kS x = kS y) : x = y := by
  injection h with h
  injection h with h
  simpa using congrArg Array.toList h
/-- block b is a map; what lies at each key -/
def Mp (w : World) (b : Nat) (f : Bs → Option Value) : Prop :=
  ∃ es clock, w.heap[b]? = some (.map es clock) ∧ Stamped es clock ∧ (∀ x ∈ es.toList, ∃ k : Bs, x.key = kS k) ∧ ∀ k v, f k = some v ↔ ∃ x ∈ es.toList, x.key = kS k ∧ x.val = v
theorem Mp.lt {w : World} {b : Nat} {f : Bs → Option Value} (h : Mp w b f) : b < w.heap.size := by
  obtain ⟨es, cl, hb, _⟩ := h
  exact (Array.getElem?_eq_some_iff.1 hb).1
theorem Mp.move {w w' : World} {b : Nat} {f : Bs → Option Value} (h : Mp w b f) (hb : w'.heap[b]? = w.heap[b]?) : Mp w' b f := by
  obtain ⟨es, cl, h1, h2⟩ := h
  exact ⟨es, cl, hb.trans h1, h2⟩
theorem Mp.made (w : World) : Mp (w.alloc (.map #[] 0)) w.heap.size fun _ => none :=
  ⟨#[], 0, (heap_alloc w _).1, stamped_empty 0, fun x hx => by simp at hx, fun k v => by simp⟩
section
variable {w : World} {b : Nat} {f : Bs → Option Value}
theorem keys_once {es : Array MapEntry} {clock : Nat} (hs : Stamped es clock) {x y : MapEntry} (hx : x ∈ es.toList) (hy : y ∈ es.toList) (h : x.key = y.key) : x = y := by
  have hn := hs.2.2
  generalize es.toList = l at hx hy hn
  induction l with
  | nil => cases hx
  | cons z r ih =>
    rw [List.map_cons] at hn
    obtain ⟨n1, n2⟩ := List.nodup_cons.1 hn
    rcases List.mem_cons.1 hx with k1 | k1
    · rcases List.mem_cons.1 hy with k2 | k2
      · rw [k1, k2]
      · exact absurd (List.mem_map.2 ⟨y, k2, by rw [← h, k1]⟩) n1
    · rcases List.mem_cons.1 hy with k2 | k2
      · exact absurd (List.mem_map.2 ⟨x, k1, by rw [h, k2]⟩) n1
      · exact ih k1 k2 n2
theorem nodup_of_keys {es : Array MapEntry} {clock : Nat} (hs : Stamped es clock) : es.toList.Nodup := (List.pairwise_map.1 hs.2.2).imp fun h e => h (by rw [e])
theorem find_key {es : Array MapEntry} (hk : ∀ x ∈ es.toList, ∃ k : Bs, x.key = kS k) (hf : ∀ k v, f k = some v ↔ ∃ x ∈ es.toList, x.key = kS k ∧ x.val = v) (k : Bs) :
    (f k = none ∧ Instr.findNow .string (kS k) es.toList 0 = some none ∧ ∀ x ∈ es.toList, x.key ≠ kS k) ∨
    ∃ j e, Instr.findNow .string (kS k) es.toList 0 = some (some (j, e.val)) ∧ es[j]? = some e ∧ e.key = kS k ∧ f k = some e.val := by
  rcases findNow_spec (d := .string) (k := kS k) trivial es.toList 0 (fun x hx => by obtain ⟨q, e⟩ := hk x hx; rw [e]; trivial) with ⟨h1, h2⟩ | ⟨j, e, h1, h2, h3⟩
  · refine .inl ⟨?_, h1, h2⟩
    cases hfk : f k with
    | none => rfl
    | some v =>
      obtain ⟨x, hx, e, _⟩ := (hf k v).1 hfk
      exact absurd e (h2 x hx)
  · rw [Nat.zero_add] at h1
    exact .inr ⟨j, e, h1, by simpa using h2, h3, (hf k e.val).2 ⟨e, List.mem_of_getElem? h2, h3, rfl⟩⟩
variable {P : Program} {T K E : TypeId}
theorem Mp.look_some (h : Mp w b f) (hT : P.underlying T = some (.map K E)) (hK : P.underlying K = some .string) {k : Bs} {v : Value} (hk : f k = some v) (ok : Bool) :
    (Instr.lookup T (.map (some b)) (kS k) ok).run P w = .ok (if ok then .tuple #[v, .bool true] else v) w := by
  obtain ⟨es, clock, hb, hs, h3, h4⟩ := h
  rcases find_key h3 h4 k with ⟨q, _⟩ | ⟨j, e, q1, q2, q3, q4⟩
  · rw [hk] at q; cases q
  · rw [hk] at q4
    injection q4 with q4
    subst q4
    unfold Instr.lookup
    simp only [Sem.run_bind, run_underlying hT, Result.andThen_ok, MapKept.run_getObj_map hb, Sem.run_pure]
    rw [MapKept.run_checkKey hK (show MapKept.IsKey .string (kS k) from trivial)]
    simp only [Result.andThen_ok, MapKept.run_findKey hK q1]
    cases ok <;> rfl
theorem Mp.look_none (h : Mp w b f) (hT : P.underlying T = some (.map K E)) (hK : P.underlying K = some .string) {z : Value} (hz : (zeroValue E).run P w = .ok z w) {k : Bs} (hk : f k = none) (ok : Bool) :
    (Instr.lookup T (.map (some b)) (kS k) ok).run P w = .ok (if ok then .tuple #[z, .bool false] else z) w := by
  obtain ⟨es, clock, hb, hs, h3, h4⟩ := h
  rcases find_key h3 h4 k with ⟨_, q1, _⟩ | ⟨j, e, q1, q2, q3, q4⟩
  · unfold Instr.lookup
    simp only [Sem.run_bind, run_underlying hT, Result.andThen_ok, MapKept.run_getObj_map hb, Sem.run_pure]
    rw [MapKept.run_checkKey hK (show MapKept.IsKey .string (kS k) from trivial)]
    simp only [Result.andThen_ok, MapKept.run_findKey hK q1, hz, Sem.run_bind, Sem.run_pure]
  · rw [hk] at q4; cases q4
theorem put_heap {w : World} {b : Nat} {o : Obj} (hb : b < w.heap.size) : (w.putObj b o).heap[b]? = some o := World.putObj_heap_same hb
theorem Mp.update (h : Mp w b f) (hT : P.underlying T = some (.map K E)) (hK : P.underlying K = some .string) (k : Bs) (v : Value) :
    ∃ o, (Instr.mapUpdate T (.map (some b)) (kS k) v).run P w = .ok () (w.putObj b o) ∧ Mp (w.putObj b o) b (upd f k (some v)) := by
  have hlt := h.lt
  obtain ⟨es, clock, hb, hs, h3, h4⟩ := h
  rcases find_key h3 h4 k with ⟨q0, q1, q2⟩ | ⟨j, e, q1, q2, q3, q4⟩
  · refine ⟨.map (es.push { key := kS k, val := v, born := clock }) (clock + 1), ?_, _, _, put_heap hlt, stamped_push hs q2, fun x hx => ?_, fun k' v' => ?_⟩
    · unfold Instr.mapUpdate
      simp only [Sem.run_bind, run_underlying hT, Result.andThen_ok, MapKept.run_getObj_map hb]
      rw [MapKept.run_checkKey hK (show MapKept.IsKey .string (kS k) from trivial)]
      simp only [Result.andThen_ok, MapKept.run_findKey hK q1]
      rw [MapKept.run_setObj_map _ hb]
      rfl
    · rw [Array.toList_push] at hx
      rcases List.mem_append.1 hx with hx | hx
      · exact h3 x hx
      · rw [List.mem_singleton] at hx; subst hx; exact ⟨k, rfl⟩
    · rw [Array.toList_push]
      by_cases e : k' = k
      · subst e
        rw [upd_same]
        constructor
        · intro hv; injection hv with hv; subst hv
          exact ⟨_, List.mem_append_right _ (List.mem_singleton.2 rfl), rfl, rfl⟩
        · rintro ⟨x, hx, e1, rfl⟩
          rcases List.mem_append.1 hx with hx | hx
          · exact absurd e1 (q2 x hx)
          · rw [List.mem_singleton] at hx; subst hx; rfl
      · rw [upd_ne _ _ e, h4]
        constructor
        · rintro ⟨x, hx, e1, e2⟩; exact ⟨x, List.mem_append_left _ hx, e1, e2⟩
        · rintro ⟨x, hx, e1, e2⟩
          rcases List.mem_append.1 hx with hx | hx
          · exact ⟨x, hx, e1, e2⟩
          · rw [List.mem_singleton] at hx; subst hx; exact absurd (kS_inj e1).symm e
  · have hmem : ∀ x, x ∈ (es.modify j fun e => { e with key := kS k, val := v }).toList ↔ (x ∈ es.toList ∧ x.key ≠ kS k) ∨ x = { e with key := kS k, val := v } := fun x => by
      constructor
      · intro hx
        obtain ⟨i, hi⟩ := List.mem_iff_getElem?.1 hx
        rw [Array.getElem?_toList, Array.getElem?_modify] at hi
        by_cases hij : j = i
        · subst hij
          rw [if_pos rfl, q2] at hi
          simp at hi
          exact .inr hi.symm
        · rw [if_neg hij] at hi
          have hx' : x ∈ es.toList := List.mem_of_getElem? (by rw [Array.getElem?_toList]; exact hi)
          refine .inl ⟨hx', fun hk => hij ?_⟩
          have hex : x = e := keys_once hs hx' (List.mem_of_getElem? (by rw [Array.getElem?_toList]; exact q2)) (hk.trans q3.symm)
          subst hex
          have hn := hs.2.2
          have hi' : es.toList[i]? = some x := by rw [Array.getElem?_toList]; exact hi
          have hj' : es.toList[j]? = some x := by rw [Array.getElem?_toList]; exact q2
          have hil := (List.getElem?_eq_some_iff.1 hi').1
          have hjl := (List.getElem?_eq_some_iff.1 hj').1
          have hnd : es.toList.Nodup := nodup_of_keys hs
          exact (List.getElem?_inj hjl hnd).1 (hj'.trans hi'.symm)
      · rintro (⟨hx, hne⟩ | rfl)
        · obtain ⟨i, hi⟩ := List.mem_iff_getElem?.1 hx
          rw [Array.getElem?_toList] at hi
          refine List.mem_iff_getElem?.2 ⟨i, ?_⟩
          rw [Array.getElem?_toList, Array.getElem?_modify, if_neg ?_]
          · exact hi
          · intro hij; subst hij; rw [q2] at hi; injection hi with hi; subst hi; exact hne q3
        · refine List.mem_iff_getElem?.2 ⟨j, ?_⟩
          rw [Array.getElem?_toList, Array.getElem?_modify, if_pos rfl, q2]
          rfl
    refine ⟨.map (es.modify j fun e => { e with key := kS k, val := v }) clock, ?_, _, _, put_heap hlt, stamped_modify hs _ _ (fun _ _ => rfl) (fun e' _ he' => by rw [q2] at he'; injection he' with he'; subst he'; exact q3.symm), fun x hx => ?_, fun k' v' => ?_⟩
    · unfold Instr.mapUpdate
      simp only [Sem.run_bind, run_underlying hT, Result.andThen_ok, MapKept.run_getObj_map hb]
      rw [MapKept.run_checkKey hK (show MapKept.IsKey .string (kS k) from trivial)]
      simp only [Result.andThen_ok, MapKept.run_findKey hK q1]
      simp only [q2, Option.map_some, Option.getD_some, q3, run_keyThatStays (d := .string) (k := kS k) trivial, Sem.run_bind, Result.andThen_ok]
      rw [MapKept.run_setObj_map _ hb]
      rfl
    · rcases (hmem x).1 hx with ⟨hx, _⟩ | rfl
      · exact h3 x hx
      · exact ⟨k, rfl⟩
    · by_cases e0 : k' = k
      · subst e0
        rw [upd_same]
        constructor
        · intro hv; injection hv with hv; subst hv
          exact ⟨_, (hmem _).2 (.inr rfl), rfl, rfl⟩
        · rintro ⟨x, hx, e1, rfl⟩
          rcases (hmem x).1 hx with ⟨_, hne⟩ | rfl
          · exact absurd e1 hne
          · rfl
      · rw [upd_ne _ _ e0, h4]
        constructor
        · rintro ⟨x, hx, e1, e2⟩
          exact ⟨x, (hmem x).2 (.inl ⟨hx, fun e3 => e0 (kS_inj (e1.symm.trans e3))⟩), e1, e2⟩
        · rintro ⟨x, hx, e1, e2⟩
          rcases (hmem x).1 hx with ⟨hx, _⟩ | rfl
          · exact ⟨x, hx, e1, e2⟩
          · exact absurd (kS_inj e1).symm e0
theorem Mp.delete (h : Mp w b f) (hT : P.underlying T = some (.map K E)) (hK : P.underlying K = some .string) (k : Bs) :
    ∃ o, (∀ ty, (Builtin.delete_ #[T, K] ty #[.map (some b), kS k]).run P w = .ok (.tuple #[]) (w.putObj b o)) ∧ Mp (w.putObj b o) b (upd f k none) := by
  have hlt := h.lt
  obtain ⟨es, clock, hb, hs, h3, h4⟩ := h
  rcases find_key h3 h4 k with ⟨q0, q1, q2⟩ | ⟨j, e, q1, q2, q3, q4⟩
  · refine ⟨.map es clock, ?_, _, _, put_heap hlt, hs, h3, fun k' v' => ?_⟩
    · intro ty
      simp [Builtin.delete_, run_underlying hT, MapKept.run_getObj_map hb, MapKept.run_checkKey hK (show MapKept.IsKey .string (kS k) from trivial), MapKept.run_findKey hK q1, MapKept.run_setObj_map _ hb, Result.andThen]
      rfl
    · rw [← h4]
      by_cases e : k' = k
      · subst e; rw [upd_same, q0]
      · rw [upd_ne _ _ e]
  · have hjl : j < es.size := (Array.getElem?_eq_some_iff.1 q2).1
    have hmem : ∀ x, x ∈ (es.eraseIdxIfInBounds j).toList ↔ x ∈ es.toList ∧ x.key ≠ kS k := fun x => by
      have e1 : (es.eraseIdxIfInBounds j).toList = es.toList.eraseIdx j := by
        unfold Array.eraseIdxIfInBounds
        rw [dif_pos hjl, Array.toList_eraseIdx]
      rw [e1, List.mem_eraseIdx_iff_getElem?]
      have hnd : es.toList.Nodup := nodup_of_keys hs
      have hj' : es.toList[j]? = some e := by rw [Array.getElem?_toList]; exact q2
      constructor
      · rintro ⟨i, hij, hi⟩
        have hx' : x ∈ es.toList := List.mem_of_getElem? hi
        refine ⟨hx', fun hk => hij ?_⟩
        have hex : x = e := keys_once hs hx' (List.mem_of_getElem? hj') (hk.trans q3.symm)
        subst hex
        exact (List.getElem?_inj (List.getElem?_eq_some_iff.1 hi).1 hnd).1 (hi.trans hj'.symm)
      · rintro ⟨hx, hne⟩
        obtain ⟨i, hi⟩ := List.mem_iff_getElem?.1 hx
        refine ⟨i, fun hij => ?_, hi⟩
        subst hij
        rw [hj'] at hi; injection hi with hi; subst hi; exact hne q3
    refine ⟨.map (es.eraseIdxIfInBounds j) clock, ?_, _, _, put_heap hlt, stamped_erase hs _, fun x hx => h3 x ((hmem x).1 hx).1, fun k' v' => ?_⟩
    · intro ty
      simp [Builtin.delete_, run_underlying hT, MapKept.run_getObj_map hb, MapKept.run_checkKey hK (show MapKept.IsKey .string (kS k) from trivial), MapKept.run_findKey hK q1, MapKept.run_setObj_map _ hb, Result.andThen]
      rfl
    · by_cases e0 : k' = k
      · subst e0
        rw [upd_same]
        constructor
        · intro hv; cases hv
        · rintro ⟨x, hx, e1, _⟩; exact absurd e1 ((hmem x).1 hx).2
      · rw [upd_ne _ _ e0, h4]
        constructor
        · rintro ⟨x, hx, e1, e2⟩
          exact ⟨x, (hmem x).2 ⟨hx, fun e3 => e0 (kS_inj (e1.symm.trans e3))⟩, e1, e2⟩
        · rintro ⟨x, hx, e1, e2⟩
          exact ⟨x, ((hmem x).1 hx).1, e1, e2⟩
/-- how many there are: as many as a list of all keys, each once -/
theorem Mp.len (h : Mp w b f) (hT : P.underlying T = some (.map K E)) (L : List Bs) (hn : L.Nodup) (hL : ∀ k, k ∈ L ↔ (f k).isSome = true) (ty : TypeId) :
    (Builtin.len_ #[T] ty #[.map (some b)]).run P w = .ok (.int .i64 (L.length : Int)) w := by
  obtain ⟨es, clock, hb, hs, h3, h4⟩ := h
  have e : es.size = L.length := by
    have hp : (es.toList.map (·.key)).Perm (L.map kS) := by
      refine (List.perm_ext_iff_of_nodup hs.2.2 (List.Pairwise.map _ (fun a b hab e => hab (kS_inj e)) hn)).2 fun v => ?_
      rw [List.mem_map, List.mem_map]
      constructor
      · rintro ⟨x, hx, rfl⟩
        obtain ⟨k, hk⟩ := h3 x hx
        refine ⟨k, (hL k).2 ?_, hk.symm⟩
        rw [(h4 k x.val).2 ⟨x, hx, hk, rfl⟩]; rfl
      · rintro ⟨k, hk, rfl⟩
        obtain ⟨v, hv⟩ := Option.isSome_iff_exists.1 ((hL k).1 hk)
        obtain ⟨x, hx, e, _⟩ := (h4 k v).1 hv
        exact ⟨x, hx, e⟩
    have := hp.length_eq
    simpa using this
  rw [← e]
  simp [Builtin.len_, run_underlying hT, MapKept.run_getObj_map hb, Result.andThen]
  rfl
theorem len_sub {α : Type} : ∀ {l m : List α}, l.Nodup → (∀ v ∈ l, v ∈ m) → l.length ≤ m.length
  | [], _, _, _ => Nat.zero_le _
  | x :: r, m, hn, h => by
    obtain ⟨n1, n2⟩ := List.nodup_cons.1 hn
    obtain ⟨a, c, rfl⟩ := List.append_of_mem (h x List.mem_cons_self)
    have := len_sub (m := a ++ c) n2 fun v hv => by
      have := h v (List.mem_cons_of_mem _ hv)
      rw [List.mem_append, List.mem_cons] at this
      rcases this with k | k | k
      · exact List.mem_append_left _ k
      · subst k; exact absurd hv n1
      · exact List.mem_append_right _ k
    simp only [List.length_append, List.length_cons] at this ⊢
    omega
/-- every value reads as itself -/
def RR : Value → Option (DataW Value × List MemPlace) := fun v => some (.held v, [])
theorem Mp.owns (h : Mp w b f) (hK : P.underlying K = some .string) (L : List Bs) (hL : ∀ k, (f k).isSome = true → k ∈ L ∧ k.length ≤ 1000000) (hl : L.length ≤ 1000000) :
    ∃ D0, w.ownsMap P K RR b L.length D0 ∧ (∀ x, Maps.has D0 (.string x) = true ↔ (f x).isSome = true) ∧ Maps.size D0 ≤ L.length ∧ (strKeys D0).Nodup := by
  obtain ⟨es, clock, hb, hs, h3, h4⟩ := h
  have hin : ∀ x ∈ es.toList, ∃ k : Bs, x.key = kS k ∧ k ∈ L ∧ k.length ≤ 1000000 ∧ f k = some x.val := fun x hx => by
    obtain ⟨k, hk⟩ := h3 x hx
    have e := (h4 k x.val).2 ⟨x, hx, hk, rfl⟩
    obtain ⟨q1, q2⟩ := hL k (by rw [e]; rfl)
    exact ⟨k, hk, q1, q2, e⟩
  have hsz : es.size ≤ L.length := by
    have hsub : ∀ v ∈ es.toList.map (·.key), v ∈ L.map kS := fun v hv => by
      obtain ⟨x, hx, rfl⟩ := List.mem_map.1 hv
      obtain ⟨k, e, q, _⟩ := hin x hx
      exact List.mem_map.2 ⟨k, q, e.symm⟩
    have := len_sub hs.2.2 hsub
    simpa using this
  have hrd : ∀ x ∈ es.toList, ∀ k : Bs, x.key = kS k → k.length ≤ 1000000 → Go.WideElems.rd P K RR x = some (.string k, .held x.val) := fun x hx k hk hle => by
    obtain ⟨xk, xv, xb⟩ := x
    simp only at hk
    subst hk
    refine Go.WideElems.rd_mk (yv := (.held xv, [])) ?_ rfl
    have := Go.WideMaps.keyOf_string_mk (s := ⟨k.toArray⟩) hK (by show k.toArray.size ≤ maxLen; rw [List.size_toArray]; unfold maxLen; omega)
    rw [this]
  have F : Go.WideElems.Fit P K RR es clock := ⟨by unfold maxLen; omega, hs, fun x hx => by obtain ⟨k, q1, _, q3, _⟩ := hin x hx; exact ⟨_, hrd x hx k q1 q3⟩⟩
  refine ⟨_, ⟨es, clock, hb, F, hsz, rfl⟩, fun x => ?_, ?_, ?_⟩
  · rw [Maps.has_eq, List.any_eq_true]
    constructor
    · rintro ⟨p, hp, hsame⟩
      obtain ⟨y, hy, rfl⟩ := List.mem_map.1 (mem_sorted.1 hp)
      obtain ⟨k, q1, _, q3, q4⟩ := hin y hy
      rw [Go.WideElems.rg_of (hrd y hy k q1 q3)] at hsame
      have : k = x := by simpa [Lit.sameKey] using hsame
      rw [← this, q4]; rfl
    · intro hx
      obtain ⟨v, hv⟩ := Option.isSome_iff_exists.1 hx
      obtain ⟨y, hy, e1, e2⟩ := (h4 x v).1 hv
      refine ⟨Go.WideElems.rg P K RR y, mem_sorted.2 (List.mem_map.2 ⟨y, hy, rfl⟩), ?_⟩
      rw [Go.WideElems.rg_of (hrd y hy x e1 (hL x hx).2)]
      simp [Lit.sameKey]
  · exact Nat.le_trans (World.ownsMap.size_le (w := w) (b := b) (P := P) (k := K) (R := RR) ⟨es, clock, hb, F, Nat.le_refl _, rfl⟩) hsz
  · show (((es.toList.map (Go.WideElems.rg P K RR)).foldr DataW.insert []).map fun p => strOf p.1).Nodup
    have hp := (Go.WideShapes.sorted_perm (es.toList.map (Go.WideElems.rg P K RR))).map fun p => strOf p.1
    rw [hp.nodup_iff, List.map_map]
    refine List.pairwise_map.2 ?_
    refine List.Pairwise.imp_of_mem (R := fun x y => x.key ≠ y.key) (fun {x y} hx hy hne e => hne ?_) (List.pairwise_map.1 hs.2.2)
    obtain ⟨k, q1, _, q3, _⟩ := hin x hx
    obtain ⟨k', q1', _, q3', _⟩ := hin y hy
    simp only [Function.comp, Go.WideElems.rg_of (hrd x hx k q1 q3), Go.WideElems.rg_of (hrd y hy k' q1' q3'), strOf] at e
    rw [q1, q1', e]
end
end Go.Proofs.Ytplmcpdlommmaaa.Dq
