/-
  Are ids one? Pointers, lists of ids, what stays: small pieces for graphs.
-/
import Derived.BigQuiet
import Derived.Test.YtplmcpdlommmaaaQTA
import Derived.Test.YtplmcpdlommmaaaChecked
import Derived.Test.YtplmcpdlommmaaaQKT
namespace Go.Proofs.Ytplmcpdlommmaaa.Dq
open Go Go.RowKit Kt Kg Lw

abbrev tId : TypeId := 23
abbrev tS : TypeId := 9
abbrev tIds : TypeId := 31
abbrev pt (g : Nat) : Value := .pointer (some ⟨g, 0, none⟩)
theorem vs_low {w : World} {P : Nat → Prop} {A : Option Addr} {c : Nat} {l : List (List UInt8)} (h : Vs w P A c (texts l)) : Vs w (fun b => b < w.heap.size) A c (texts l) := by
  refine ⟨h.1, fun h0 => ?_⟩
  obtain ⟨b, o, e, _, hc⟩ := h.2 h0
  refine ⟨b, o, e, ?_, hc⟩
  exact World.block_lt_of_cell? w _ (hc 0 _ (List.getElem?_eq_getElem h0))
theorem vs_text {w w' : World} {A : Option Addr} {c : Nat} {l : List (List UInt8)} (h : Vs w (fun b => b < w.heap.size) A c (texts l)) (hb : Below w.heap.size w w') {k : Nat} (hk : k < l.length) :
    ∃ b o, A = some ⟨b, o, none⟩ ∧ w'.cell? ⟨b, o + k, none⟩ = some (.string ⟨(l.getD k []).toArray⟩) := by
  obtain ⟨b, o, rfl, hp, hc⟩ := h.2 (by rw [texts_len]; omega)
  exact ⟨b, o, rfl, (World.cell?_of_block (a := ⟨b, o + k, none⟩) (hb.block b hp)).trans (hc k _ (texts_at l k hk))⟩
theorem texts_same (l r : List (List UInt8)) (hl : l.length = r.length) (h : ∀ j, j < l.length → l.getD j [] = r.getD j []) : l = r := by
  apply List.ext_getElem hl
  intro i h1 h2
  have := h i h1
  simpa [List.getElem?_eq_getElem h1, List.getElem?_eq_getElem h2] using this
theorem eq_txt2 (x y : List UInt8) : ((ByteArray.mk x.toArray).toList == (ByteArray.mk y.toArray).toList) = decide (x = y) := by
  rw [Lib.toList_data, Lib.toList_data, Bool.eq_iff_iff, beq_iff_eq, decide_eq_true_iff]
set_option maxHeartbeats 1000000 in
set_option maxRecDepth 100000 in
theorem ids_any (l r : List (List UInt8)) (A A' : Option Addr) (c c' : Nat) (P P' : Nat → Prop) (w : World) (hs : Vs w P A c (texts l)) (hs' : Vs w P' A' c' (texts r)) (hl : l.length ≤ 9223372036854775807) :
    Calls Try.prog 14 #[.slice A l.length c, .slice A' r.length c'] w fun y w' => y = .returned (.bool (decide (l = r))) ∧ Below w.heap.size w w' := by
  by_cases hlen : l.length = r.length
  · have Hs := hide (vs_low hs)
    have Hs' := hide (vs_low hs')
    clear hs hs'
    have hb0 : ((l.length : Int) != (r.length : Int)) = false := by rw [bne_eq_false_iff_eq]; omega
    have Hlen := hide hlen
    obtain ⟨N, hN⟩ : ∃ N, N = l.length := ⟨_, rfl⟩
    obtain ⟨N', hN'⟩ : ∃ N', N' = r.length := ⟨_, rfl⟩
    rw [← hN, ← hN'] at hb0 ⊢
    have HN := hide hN
    have HN' := hide hN'
    have hNl : N ≤ 9223372036854775807 := by omega
    have hNN : N = N' := by omega
    have HNN := hide hNN
    clear hN hN' hl hlen hNN
    go_enter Try.func14, Try.ntmps14
    go_wp2
    go_loopw [5] (fun i wr => ∃ k : Nat, k ≤ N ∧ i = .int .i64 k ∧ (∀ j, j < k → l.getD j [] = r.getD j []) ∧ Below w.heap.size w wr) (fun i _ => N - (intOf i).toNat)
    case atStart => exact ⟨0, Nat.zero_le _, rfl, fun j h => absurd h (Nat.not_lt_zero _), Below.refl _ _⟩
    case round =>
      obtain ⟨k, hk, rfl, hall, hb⟩ := hrel
      have Hall := hide hall
      have Hb := hide hb
      clear hall hb
      by_cases hlt : k < N
      · obtain ⟨b, o, rfl, ck⟩ := vs_text Hs.out Hb.out (k := k) (by have := HN.out; omega)
        obtain ⟨b', o', rfl, ck'⟩ := vs_text Hs'.out Hb.out (k := k) (by have := HN'.out; have := HNN.out; omega)
        have hlt' : k < N' := by have := HNN.out; omega
        by_cases hx : l.getD k [] = r.getD k []
        · have Hx := hide hx
          rw [hx] at ck
          clear hx
          generalize (r.getD k []).toArray = x at *
          go_wp2
          go_quiet (fail)
          go_wp2
          refine ⟨⟨k + 1, by omega, by go_num, fun j hj => ?_, below_drewN Hb.out _⟩, by simp [intOf]; omega⟩
          rcases Nat.lt_or_ge j k with hj' | hj'
          · exact Hall.out j hj'
          · obtain rfl : j = k := by omega
            exact Hx.out
        · have hxn := eq_txt2 (l.getD k []) (r.getD k [])
          rw [decide_eq_false hx] at hxn
          have Hx := hide hx
          clear hx
          generalize (r.getD k []).toArray = x at *
          generalize (l.getD k []).toArray = y at *
          go_wp2
          go_quiet (fail)
          go_wp2
          go_ret
          refine ⟨?_, below_drewN Hb.out _⟩
          have hd : decide (l = r) = false := decide_eq_false fun h => Hx.out (by rw [h])
          rw [hd]; rfl
      · obtain rfl : k = N := by omega
        go_wp2
        go_ret
        refine ⟨?_, Hb.out⟩
        have hd : decide (l = r) = true := decide_eq_true (texts_same l r Hlen.out fun j hj => Hall.out j (by have := HN.out; omega))
        rw [hd]; rfl
  · have hb0 : ((l.length : Int) != (r.length : Int)) = true := by rw [bne_iff_ne]; omega
    have Hd := hide (show decide (l = r) = false from decide_eq_false fun h => hlen (by rw [h]))
    clear hs hs' hlen
    go_enter Try.func14, Try.ntmps14
    go_wp2
    go_ret
    exact ⟨by rw [Hd.out]; rfl, Below.refl _ _⟩
theorem oth_low {S : Nat → Prop} {w0 a b : World} (h : Oth S a b) (hb : Below w0.heap.size w0 a) (hS : ∀ k, S k → w0.heap.size ≤ k) : Below w0.heap.size w0 b :=
  h.below hb hb.size fun k hk hs => by have := hS k hs; omega
theorem vs_move {w w' : World} {P : Nat → Prop} {A : Option Addr} {c : Nat} {vs : List Value} (h : Vs w P A c vs) (hk : ∀ b, P b → w'.heap[b]? = w.heap[b]?) : Vs w' P A c vs :=
  ⟨h.1, fun h0 => by
    obtain ⟨b, o, e, hp, hc⟩ := h.2 h0
    exact ⟨b, o, e, hp, fun j v hj => (World.cell?_of_block (a := ⟨b, o + j, none⟩) (hk b hp)).trans (hc j v hj)⟩⟩
theorem vs_imp {w : World} {P Q : Nat → Prop} {A : Option Addr} {c : Nat} {vs : List Value} (h : Vs w P A c vs) (hi : ∀ b, b < w.heap.size → P b → Q b) : Vs w Q A c vs :=
  ⟨h.1, fun h0 => by
    obtain ⟨b, o, e, hp, hc⟩ := h.2 h0
    refine ⟨b, o, e, hi b ?_ hp, hc⟩
    exact World.block_lt_of_cell? w _ (hc 0 _ (List.getElem?_eq_getElem h0))⟩
theorem vs_keep {w w' : World} {A : Option Addr} {c : Nat} {vs : List Value} (h : Vs w (fun b => b < w.heap.size) A c vs) (hb : Below w.heap.size w w') : Vs w' (fun b => b < w.heap.size) A c vs :=
  vs_move h fun b hp => hb.block b hp
theorem vs_at {w : World} {S : Nat → Prop} {A : Option Addr} {c : Nat} {l : List (List UInt8)} (h : Vs w S A c (texts l)) {k : Nat} {x : List UInt8} (hk : l[k]? = some x) : ∃ b o, A = some ⟨b, o, none⟩ ∧ S b ∧ w.cell? ⟨b, o + k, none⟩ = some (.string ⟨x.toArray⟩) := by
  have hlt := (List.getElem?_eq_some_iff.1 hk).1
  obtain ⟨b, o, e, hp, hc⟩ := h.2 (by rw [texts_len]; omega)
  refine ⟨b, o, e, hp, hc k _ ?_⟩
  rw [texts_at l k hlt]
  simp [List.getD_eq_getElem?_getD, hk]
theorem vs_drew {w : World} {P : Nat → Prop} {A : Option Addr} {c : Nat} {vs : List Value} (h : Vs w P A c vs) : Vs w.drew P A c vs := h
end Go.Proofs.Ytplmcpdlommmaaa.Dq
namespace Go.Proofs.Ytplmcpdlommmaaa.Dq
open Go Tr

theorem has_false {D : List Nd} (h : Up (D.map Nd.id)) {id : Bs} : has D id = false ↔ ∀ n ∈ D, n.id = id → n.on = false := by
  rw [← Bool.not_eq_true, has_iff h]
  constructor
  · intro k n hn e
    cases ho : n.on with
    | false => rfl
    | true => exact absurd ⟨n, hn, e, ho⟩ k
  · rintro k ⟨n, hn, e, ho⟩
    rw [k n hn e] at ho; cases ho
theorem ready_iff {D : List Nd} {ps : List Bs} : ready D ps = true ↔ ∀ p ∈ ps, has D p = true := by
  unfold ready; rw [List.all_eq_true]
theorem turnOn_mem {D : List Nd} (h : Up (D.map Nd.id)) {i : Nat} {n : Nd} (hi : D[i]? = some n) {m : Nd} : m ∈ turnOn D i ↔ (m ∈ D ∧ m.id ≠ n.id) ∨ m = ⟨n.id, n.ps, true⟩ := by
  have hn : n ∈ D := List.mem_of_getElem? hi
  unfold turnOn
  constructor
  · intro hm
    obtain ⟨k, hk⟩ := List.mem_iff_getElem?.1 hm
    rw [List.getElem?_modify] at hk
    by_cases e : i = k
    · subst e
      rw [hi] at hk
      simp at hk
      exact .inr hk.symm
    · simp [e] at hk
      have hmD : m ∈ D := List.mem_of_getElem? hk
      refine .inl ⟨hmD, fun e2 => ?_⟩
      obtain rfl := up_once h hmD hn e2
      have hnd : (D.map Nd.id).Nodup := List.Pairwise.imp (fun hl => lt_ne hl) h
      have h1 := (List.getElem?_eq_some_iff.1 hi)
      have h2 := (List.getElem?_eq_some_iff.1 hk)
      obtain ⟨l1, v1⟩ := h1
      obtain ⟨l2, v2⟩ := h2
      refine e ((List.getElem_inj (h₀ := by rw [List.length_map]; exact l1) (h₁ := by rw [List.length_map]; exact l2) hnd).1 ?_)
      rw [List.getElem_map, List.getElem_map, v1, v2]
  · rintro (⟨hm, hne⟩ | rfl)
    · obtain ⟨k, hk⟩ := List.mem_iff_getElem?.1 hm
      refine List.mem_iff_getElem?.2 ⟨k, ?_⟩
      rw [List.getElem?_modify]
      by_cases e : i = k
      · subst e
        rw [hi] at hk
        injection hk with hk
        exact absurd (by rw [hk]) hne
      · simp [e]; exact hk
    · refine List.mem_iff_getElem?.2 ⟨i, ?_⟩
      rw [List.getElem?_modify, hi]; simp
abbrev cnt (D : List Nd) : Nat := (D.filter Nd.on).length
theorem cnt_le (D : List Nd) : cnt D ≤ D.length := List.length_filter_le _ _
theorem insN_cnt (x : Nd) (D : List Nd) : cnt (insN x D) = cnt D + if x.on then 1 else 0 := by
  unfold cnt
  induction D with
  | nil => cases h : x.on <;> simp [insN, h]
  | cons y r ih =>
    unfold insN
    split
    · cases h : x.on <;> simp [List.filter_cons, h]
    · rw [List.filter_cons, List.filter_cons]
      split
      · rw [List.length_cons, ih, List.length_cons]; omega
      · exact ih
theorem turnOn_cnt : ∀ (D : List Nd) (i : Nat) (n : Nd), D[i]? = some n → n.on = false → cnt (turnOn D i) = cnt D + 1
  | [], i, n, h, _ => by cases h
  | y :: r, 0, n, h, ho => by
    simp at h
    subst h
    simp [cnt, turnOn, ho]
  | y :: r, i + 1, n, h, ho => by
    have ih := turnOn_cnt r i n (by simpa using h) ho
    unfold cnt turnOn at ih ⊢
    rw [List.modify_succ_cons, List.filter_cons, List.filter_cons]
    split
    · rw [List.length_cons, ih, List.length_cons]
    · exact ih
/-- one more that needn't wait -/
theorem Inv.more {D D' : List Nd} (h : Inv D) (hu : Up (D'.map Nd.id)) {id : Bs} {ps : List Bs} (h1 : ∀ n ∈ D', n.on = true → (n ∈ D ∧ n.on = true) ∨ (n.id = id ∧ n.ps = ps)) (h2 : ∀ n ∈ D, n.on = true → n ∈ D')
    (h3 : has D id = false) (h4 : ready D ps = true) (h5 : cnt D' = cnt D + 1) : Inv D' := by
  obtain ⟨up, r, r1, r2⟩ := h
  have hm : ∀ p, has D p = true → has D' p = true := fun p hp => by
    obtain ⟨n, hn, e, ho⟩ := (has_iff up).1 hp
    exact (has_iff hu).2 ⟨n, h2 n hn ho, e, ho⟩
  have hne : ∀ p, has D p = true → p ≠ id := fun p hp e => by rw [e, h3] at hp; cases hp
  refine ⟨hu, fun x => if x = id then cnt D else r x, fun n hn ho => ?_, fun n hn ho p hp => ?_⟩
  · show (if n.id = id then cnt D else r n.id) < cnt D'
    split
    · omega
    · next hx =>
      rcases h1 n hn ho with ⟨k, _⟩ | ⟨k, _⟩
      · have := r1 n k ho
        have : r n.id < cnt D := this
        omega
      · exact absurd k hx
  · show has D' p = true ∧ (if p = id then cnt D else r p) < (if n.id = id then cnt D else r n.id)
    rcases h1 n hn ho with ⟨k, _⟩ | ⟨k, k2⟩
    · obtain ⟨q1, q2⟩ := r2 n k ho p hp
      have hn2 : has D n.id = true := (has_iff up).2 ⟨n, k, rfl, ho⟩
      rw [if_neg (hne p q1), if_neg (hne _ hn2)]
      exact ⟨hm p q1, q2⟩
    · rw [k2] at hp
      have q1 := ready_iff.1 h4 p hp
      rw [if_neg (hne p q1), if_pos k]
      obtain ⟨m, m1, rfl, m3⟩ := (has_iff up).1 q1
      exact ⟨hm _ q1, r1 m m1 m3⟩
theorem nxt_some {D : List Nd} {i : Nat} (h : nxt D = some i) : ∃ n, D[i]? = some n ∧ n.on = false ∧ ready D n.ps = true := by
  unfold nxt at h
  obtain ⟨hi, hp, _⟩ := List.findIdx?_eq_some_iff_getElem.1 h
  simp at hp
  exact ⟨_, List.getElem?_eq_getElem hi, hp.1, hp.2⟩
theorem nxt_none {D : List Nd} (h : nxt D = none) : Full D := by
  intro n hn ho
  unfold nxt at h
  have := List.findIdx?_eq_none_iff.1 h n hn
  simpa [ho] using this
theorem Inv.turn {D : List Nd} (h : Inv D) {i : Nat} (hi : nxt D = some i) : Inv (turnOn D i) ∧ cnt (turnOn D i) = cnt D + 1 := by
  obtain ⟨n, h1, h2, h3⟩ := nxt_some hi
  have hc := turnOn_cnt D i n h1 h2
  have hn : n ∈ D := List.mem_of_getElem? h1
  refine ⟨h.more (by rw [turnOn_ids]; exact h.up) (id := n.id) (ps := n.ps) (fun m hm ho => ?_) (fun m hm ho => ?_) ?_ h3 hc, hc⟩
  · rcases (turnOn_mem h.up h1).1 hm with ⟨k, _⟩ | rfl
    · exact .inl ⟨k, ho⟩
    · exact .inr ⟨rfl, rfl⟩
  · refine (turnOn_mem h.up h1).2 (.inl ⟨hm, fun e => ?_⟩)
    rw [up_once h.up hm hn e, h2] at ho; cases ho
  · rw [has_of h.up hn]; exact h2
def bas (D : List Nd) : List (Bs × List Bs) := D.map fun n => (n.id, n.ps)
theorem fill_keeps : ∀ (f : Nat) (D : List Nd) (o : List Bs), Inv D → Inv (fill f D o).1 ∧ bas (fill f D o).1 = bas D ∧ (fill f D o).1.length = D.length ∧ (D.length < cnt D + f → Full (fill f D o).1)
  | 0, D, o, h => ⟨h, rfl, rfl, fun hl => absurd (cnt_le D) (by omega)⟩
  | f + 1, D, o, h => by
    unfold fill
    split
    · next hn => exact ⟨h, rfl, rfl, fun _ => nxt_none hn⟩
    · next i hi =>
      obtain ⟨h1, h2⟩ := h.turn hi
      obtain ⟨q1, q2, q3, q4⟩ := fill_keeps f (turnOn D i) (o ++ [(D.getD i ⟨[], [], false⟩).id]) h1
      exact ⟨q1, q2.trans (turnOn_bas D i), q3.trans (turnOn_len D i), fun hl => q4 (by rw [turnOn_len]; omega)⟩
theorem insN_has {x : Nd} {D : List Nd} (hu : Up (D.map Nd.id)) (hx : ∀ n ∈ D, n.id ≠ x.id) (ho : x.on = false) (id : Bs) : has (insN x D) id = has D id := by
  rw [Bool.eq_iff_iff, has_iff (insN_up hu hx), has_iff hu]
  constructor
  · rintro ⟨n, hn, e, h⟩
    rcases insN_mem.1 hn with rfl | hn
    · rw [ho] at h; cases h
    · exact ⟨n, hn, e, h⟩
  · rintro ⟨n, hn, e, h⟩
    exact ⟨n, insN_mem.2 (.inr hn), e, h⟩
theorem insN_bas (x : Nd) (D : List Nd) (y : Bs × List Bs) : y ∈ bas (insN x D) ↔ y = (x.id, x.ps) ∨ y ∈ bas D := by
  unfold bas
  rw [List.mem_map, List.mem_map]
  constructor
  · rintro ⟨n, hn, rfl⟩
    rcases insN_mem.1 hn with rfl | hn
    · exact .inl rfl
    · exact .inr ⟨n, hn, rfl⟩
  · rintro (rfl | ⟨n, hn, rfl⟩)
    · exact ⟨x, insN_mem.2 (.inl rfl), rfl⟩
    · exact ⟨n, insN_mem.2 (.inr hn), rfl⟩
theorem add_keeps {D : List Nd} (h : Inv D) (hf : Full D) (id : Bs) (ps : List Bs) : Inv (add D id ps).1 ∧ Full (add D id ps).1 ∧ (∀ y, y ∈ bas (add D id ps).1 ↔ y ∈ bas D ∨ (get D id = none ∧ y = (id, sortIds ps))) ∧ (add D id ps).1.length ≤ D.length + 1 := by
  unfold add
  cases hg : get D id with
  | some n =>
    rw [if_pos (show (some n).isSome = true from rfl)]
    exact ⟨h, hf, fun y => ⟨.inl, fun k => k.elim (fun z => z) fun z => by cases z.1⟩, Nat.le_succ _⟩
  | none =>
    have hx := get_none hg
    rw [if_neg (show ¬ (none : Option Nd).isSome = true by simp)]
    split
    · next hr =>
      have hI : Inv (insN ⟨id, sortIds ps, true⟩ D) := h.more (insN_up h.up hx) (id := id) (ps := sortIds ps)
        (fun n hn ho => by
          rcases insN_mem.1 hn with rfl | hn
          · exact .inr ⟨rfl, rfl⟩
          · exact .inl ⟨hn, ho⟩)
        (fun n hn _ => insN_mem.2 (.inr hn)) ((has_false h.up).2 fun n hn e => absurd e (hx n hn)) hr (by rw [insN_cnt]; rfl)
      obtain ⟨q1, q2, q3, q4⟩ := fill_keeps (D.length + 1) _ [id] hI
      refine ⟨q1, q4 (by rw [insN_len, insN_cnt, if_pos rfl]; omega), fun y => ?_, by rw [q3, insN_len]; exact Nat.le_refl _⟩
      rw [q2, insN_bas]
      constructor
      · rintro (k | k)
        · exact .inr ⟨rfl, k⟩
        · exact .inl k
      · rintro (k | ⟨_, k⟩)
        · exact .inr k
        · exact .inl k
    · next hr =>
      have hr : ready D (sortIds ps) = false := by simpa using hr
      have hh := insN_has (x := ⟨id, sortIds ps, false⟩) h.up hx rfl
      have hrd : ∀ l, ready (insN ⟨id, sortIds ps, false⟩ D) l = ready D l := fun l => by
        unfold ready
        congr 1
        funext p
        exact hh p
      have hc : cnt (insN ⟨id, sortIds ps, false⟩ D) = cnt D := by rw [insN_cnt]; rfl
      obtain ⟨r, r1, r2⟩ := h.rank
      refine ⟨⟨insN_up h.up hx, r, fun n hn ho => ?_, fun n hn ho p hp => ?_⟩, fun n hn ho => ?_, fun y => ?_, by rw [insN_len]; exact Nat.le_refl _⟩
      · rcases insN_mem.1 hn with rfl | hn
        · cases ho
        · show r n.id < cnt _
          rw [hc]; exact r1 n hn ho
      · rcases insN_mem.1 hn with rfl | hn
        · cases ho
        · rw [hh]; exact r2 n hn ho p hp
      · rw [hrd]
        rcases insN_mem.1 hn with rfl | hn
        · exact hr
        · exact hf n hn ho
      · show y ∈ bas (insN _ D) ↔ _
        rw [insN_bas]
        constructor
        · rintro (k | k)
          · exact .inr ⟨rfl, k⟩
          · exact .inl k
        · rintro (k | ⟨_, k⟩)
          · exact .inr k
          · exact .inl k
theorem up_ext : ∀ {l m : List Bs}, Up l → Up m → (∀ x, x ∈ l ↔ x ∈ m) → l = m
  | [], [], _, _, _ => rfl
  | [], y :: m, _, _, h => by have := (h y).2 List.mem_cons_self; cases this
  | x :: l, [], _, _, h => by have := (h x).1 List.mem_cons_self; cases this
  | x :: l, y :: m, h1, h2, h => by
    obtain ⟨a1, a2⟩ := List.pairwise_cons.1 h1
    obtain ⟨b1, b2⟩ := List.pairwise_cons.1 h2
    have e : x = y := by
      rcases List.mem_cons.1 ((h x).1 List.mem_cons_self) with k | k
      · exact k
      · rcases List.mem_cons.1 ((h y).2 List.mem_cons_self) with z | z
        · exact z.symm
        · have := lt_trans (a1 y z) (b1 x k)
          rw [lt_irr] at this; cases this
    subst e
    rw [up_ext a2 b2 fun z => ?_]
    constructor
    · intro hz
      rcases List.mem_cons.1 ((h z).1 (List.mem_cons_of_mem _ hz)) with k | k
      · exact absurd k.symm (lt_ne (a1 z hz))
      · exact k
    · intro hz
      rcases List.mem_cons.1 ((h z).2 (List.mem_cons_of_mem _ hz)) with k | k
      · exact absurd k.symm (lt_ne (b1 z hz))
      · exact k
/-- what waits hangs on what is known alone -/
theorem same_on {D E : List Nd} (h : Inv D) (h2 : Inv E) (hf : Full E) (hb : ∀ y, y ∈ bas D ↔ y ∈ bas E) (id : Bs) (ho : has D id = true) : has E id = true := by
  obtain ⟨r, r1, r2⟩ := h.rank
  suffices ∀ k id, r id < k → has D id = true → has E id = true from this (r id + 1) id (Nat.lt_succ_self _) ho
  intro k
  induction k with
  | zero => intro id hk; omega
  | succ k ih =>
    intro id hk ho
    obtain ⟨n, hn, rfl, hno⟩ := (has_iff h.up).1 ho
    obtain ⟨m, hm, e⟩ := List.mem_map.1 ((hb (n.id, n.ps)).1 (List.mem_map.2 ⟨n, hn, rfl⟩))
    injection e with e1 e2
    refine (has_iff h2.up).2 ⟨m, hm, e1, ?_⟩
    cases hmo : m.on with
    | true => rfl
    | false =>
      have hr := hf m hm hmo
      rw [ready_iff.2 fun p hp => ?_] at hr
      · cases hr
      · rw [e2] at hp
        obtain ⟨q1, q2⟩ := r2 n hn hno p hp
        exact ih p (by omega) q1
theorem same_graph {D E : List Nd} (h : Inv D) (hf : Full D) (h2 : Inv E) (hf2 : Full E) (hb : ∀ y, y ∈ bas D ↔ y ∈ bas E) : D = E := by
  have hids : D.map Nd.id = E.map Nd.id := up_ext h.up h2.up fun x => by
    constructor
    · intro hx
      obtain ⟨n, hn, rfl⟩ := List.mem_map.1 hx
      obtain ⟨m, hm, e⟩ := List.mem_map.1 ((hb (n.id, n.ps)).1 (List.mem_map.2 ⟨n, hn, rfl⟩))
      injection e with e1 _
      exact List.mem_map.2 ⟨m, hm, e1⟩
    · intro hx
      obtain ⟨n, hn, rfl⟩ := List.mem_map.1 hx
      obtain ⟨m, hm, e⟩ := List.mem_map.1 ((hb (n.id, n.ps)).2 (List.mem_map.2 ⟨n, hn, rfl⟩))
      injection e with e1 _
      exact List.mem_map.2 ⟨m, hm, e1⟩
  have hmem : ∀ n ∈ D, n ∈ E := by
    intro n hn
    obtain ⟨m, hm, e⟩ := List.mem_map.1 ((hb (n.id, n.ps)).1 (List.mem_map.2 ⟨n, hn, rfl⟩))
    injection e with e1 e2
    have ho : m.on = n.on := by
      rw [Bool.eq_iff_iff, ← has_of h2.up hm, ← has_of h.up hn, e1]
      exact ⟨same_on h2 h hf (fun y => (hb y).symm) _, same_on h h2 hf2 hb _⟩
    have : n = m := by cases n; cases m; simp_all
    rw [this]; exact hm
  apply List.ext_getElem?
  intro k
  cases hk : D[k]? with
  | none =>
    have hl : D.length = E.length := by simpa using congrArg List.length hids
    symm
    rw [List.getElem?_eq_none_iff] at hk ⊢
    omega
  | some n =>
    have h3 : (E.map Nd.id)[k]? = some n.id := by rw [← hids, List.getElem?_map, hk]; rfl
    rw [List.getElem?_map] at h3
    cases he : E[k]? with
    | none => rw [he] at h3; cases h3
    | some m =>
      rw [he] at h3
      injection h3 with h3
      rw [up_once h2.up (List.mem_of_getElem? he) (hmem n (List.mem_of_getElem? hk)) h3]
/-- nodes, added one by one -/
def run (l : List Nd) : List Nd := l.foldl (fun D n => (add D n.id n.ps).1) []
theorem run_snoc (l : List Nd) (n : Nd) : run (l ++ [n]) = (add (run l) n.id n.ps).1 := by simp [run]
theorem empty_inv : Inv [] ∧ Full [] := ⟨⟨List.Pairwise.nil, fun _ => 0, fun n hn => (by cases hn), fun n hn => (by cases hn)⟩, fun n hn => (by cases hn)⟩
theorem run_keeps (l : List Nd) : Inv (run l) ∧ Full (run l) ∧ (run l).length ≤ l.length := by
  suffices ∀ (l : List Nd) D, Inv D → Full D → Inv (l.foldl (fun D n => (add D n.id n.ps).1) D) ∧ Full (l.foldl (fun D n => (add D n.id n.ps).1) D) ∧ (l.foldl (fun D n => (add D n.id n.ps).1) D).length ≤ D.length + l.length by
    have := this l [] empty_inv.1 empty_inv.2
    simpa [run] using this
  intro l
  induction l with
  | nil => intro D h1 h2; exact ⟨h1, h2, Nat.le_refl _⟩
  | cons n r ih =>
    intro D h1 h2
    obtain ⟨q1, q2, _, q4⟩ := add_keeps h1 h2 n.id n.ps
    obtain ⟨p1, p2, p3⟩ := ih _ q1 q2
    exact ⟨p1, p2, by rw [List.length_cons]; rw [List.foldl_cons]; omega⟩
/-- ids that are unlike: all that was added is known -/
theorem run_bas (l : List Nd) (hd : (l.map Nd.id).Nodup) (y : Bs × List Bs) : y ∈ bas (run l) ↔ ∃ n ∈ l, y = (n.id, sortIds n.ps) := by
  suffices ∀ (r l : List Nd), (((l ++ r).map Nd.id).Nodup) → (∀ y, y ∈ bas (run l) ↔ ∃ n ∈ l, y = (n.id, sortIds n.ps)) → ∀ y, y ∈ bas (run (l ++ r)) ↔ ∃ n ∈ l ++ r, y = (n.id, sortIds n.ps) by
    exact this l [] hd (fun y => by simp [run, bas]) y
  intro r
  induction r with
  | nil => intro l _ h y; rw [List.append_nil]; exact h y
  | cons n r ih =>
    intro l hd h
    have e : l ++ n :: r = (l ++ [n]) ++ r := by simp
    rw [e] at hd ⊢
    refine ih (l ++ [n]) hd fun y => ?_
    have hk := run_keeps l
    rw [run_snoc, (add_keeps hk.1 hk.2.1 n.id n.ps).2.2.1, h]
    have hg : get (run l) n.id = none := by
      cases hg : get (run l) n.id with
      | none => rfl
      | some m =>
        obtain ⟨m1, m2⟩ := get_some hg
        obtain ⟨a, ha, e⟩ := (h (m.id, m.ps)).1 (List.mem_map.2 ⟨m, m1, rfl⟩)
        injection e with e1 _
        rw [List.map_append, List.map_append] at hd
        have hd1 := (List.nodup_append.1 hd).1
        have := (List.nodup_append.1 hd1).2.2 a.id (List.mem_map_of_mem ha) n.id (by simp)
        exact absurd (e1.symm.trans m2) this
    constructor
    · rintro (⟨a, ha, rfl⟩ | ⟨_, rfl⟩)
      · exact ⟨a, List.mem_append_left _ ha, rfl⟩
      · exact ⟨n, by simp, rfl⟩
    · rintro ⟨a, ha, rfl⟩
      rcases List.mem_append.1 ha with ha | ha
      · exact .inl ⟨a, ha, rfl⟩
      · rw [List.mem_singleton.1 ha]
        exact .inr ⟨hg, rfl⟩
/-- in whatever order the same is added, the same is in -/
theorem run_order {l m : List Nd} (hl : (l.map Nd.id).Nodup) (hm : (m.map Nd.id).Nodup) (h : ∀ n, n ∈ l ↔ n ∈ m) : run l = run m := by
  have h1 := run_keeps l
  have h2 := run_keeps m
  refine same_graph h1.1 h1.2.1 h2.1 h2.2.1 fun y => ?_
  rw [run_bas l hl, run_bas m hm]
  constructor
  · rintro ⟨n, hn, e⟩; exact ⟨n, (h n).1 hn, e⟩
  · rintro ⟨n, hn, e⟩; exact ⟨n, (h n).2 hn, e⟩
end Go.Proofs.Ytplmcpdlommmaaa.Dq
