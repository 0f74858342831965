/-
  A map whose keys are texts, told by what lies at each key.
-/
import Derived.MapKept
import Derived.RangeFuncRecord
import Derived.Carry
import Derived.Sort.KeysCollected
import Derived.Test.YtlfncnnfpniigaaDF
import Derived.Test.YtlfncnnfpniigaaXA
namespace Go.Proofs.Ytlfncnnfpniigaa.Dq
open Go Go.RowKit Go.MapKept Kt Kg Lw Tr

abbrev kS (k : Bs) : Value := .string ⟨k.toArray⟩
theorem kS_inj {x y : Bs} (h : kS x = kS y) : x = y := by
  injection h with h
  injection h with h
  simpa using congrArg Array.toList h
/-- block b is a map; what lies at each key -/
def Mp (w : World) (b : Nat) (f : Bs → Option Value) : Prop :=
  ∃ es clock, w.heap[b]? = some (.map es clock) ∧ Stamped es clock ∧ (∀ x ∈ es.toList, ∃ k : Bs, x.key = kS k) ∧ ∀ k v, f k = some v ↔ ∃ x ∈ es.toList, x.key = kS k ∧ x.val = v
theorem Mp.lt {w : World} {b : Nat} {f : Bs → Option Value} (h : Mp w b f) : b < w.heap.size := by
  obtain ⟨es, cl, hb, _⟩ := h
  exact (Array.getElem?_eq_some_iff.1 hb).1
theorem Mp.move {w w' : World} {b : Nat} {f : Bs → Option Value} (h : Mp w b f) (hb : w'.heap[b]? = w.heap[b]?) : Mp w' b f := by
  obtain ⟨es, cl, h1, h2⟩ := h
  exact ⟨es, cl, hb.trans h1, h2⟩
theorem Mp.made (w : World) : Mp (w.alloc (.map #[] 0)) w.heap.size fun _ => none :=
  ⟨#[], 0, (heap_alloc w _).1, stamped_empty 0, fun x hx => by simp at hx, fun k v => by simp⟩
section
variable {w : World} {b : Nat} {f : Bs → Option Value}
theorem keys_once {es : Array MapEntry} {clock : Nat} (hs : Stamped es clock) {x y : MapEntry} (hx : x ∈ es.toList) (hy : y ∈ es.toList) (h : x.key = y.key) : x = y := by
  have hn := hs.2.2
  generalize es.toList = l at hx hy hn
  induction l with
  | nil => cases hx
  | cons z r ih =>
    rw [List.map_cons] at hn
    obtain ⟨n1, n2⟩ := List.nodup_cons.1 hn
    rcases List.mem_cons.1 hx with k1 | k1
    · rcases List.mem_cons.1 hy with k2 | k2
      · rw [k1, k2]
      · exact absurd (List.mem_map.2 ⟨y, k2, by rw [← h, k1]⟩) n1
    · rcases List.mem_cons.1 hy with k2 | k2
      · exact absurd (List.mem_map.2 ⟨x, k1, by rw [h, k2]⟩) n1
      · exact ih k1 k2 n2
theorem nodup_of_keys {es : Array MapEntry} {clock : Nat} (hs : Stamped es clock) : es.toList.Nodup := (List.pairwise_map.1 hs.2.2).imp fun h e => h (by rw [e])
theorem find_key {es : Array MapEntry} (hk : ∀ x ∈ es.toList, ∃ k : Bs, x.key = kS k) (hf : ∀ k v, f k = some v ↔ ∃ x ∈ es.toList, x.key = kS k ∧ x.val = v) (k : Bs) :
    (f k = none ∧ Instr.findNow .string (kS k) es.toList 0 = some none ∧ ∀ x ∈ es.toList, x.key ≠ kS k) ∨
    ∃ j e, Instr.findNow .string (kS k) es.toList 0 = some (some (j, e.val)) ∧ es[j]? = some e ∧ e.key = kS k ∧ f k = some e.val := by
  rcases findNow_spec (d := .string) (k := kS k) trivial es.toList 0 (fun x hx => by obtain ⟨q, e⟩ := hk x hx; rw [e]; trivial) with ⟨h1, h2⟩ | ⟨j, e, h1, h2, h3⟩
  · refine .inl ⟨?_, h1, h2⟩
    cases hfk : f k with
    | none => rfl
    | some v =>
      obtain ⟨x, hx, e, _⟩ := (hf k v).1 hfk
      exact absurd e (h2 x hx)
  · rw [Nat.zero_add] at h1
    exact .inr ⟨j, e, h1, by simpa using h2, h3, (hf k e.val).2 ⟨e, List.mem_of_getElem? h2, h3, rfl⟩⟩
variable {P : Program} {T K E : TypeId}
theorem Mp.look_some (h : Mp w b f) (hT : P.underlying T = some (.map K E)) (hK : P.underlying K = some .string) {k : Bs} {v : Value} (hk : f k = some v) (ok : Bool) :
    (Instr.lookup T (.map (some b)) (kS k) ok).run P w = .ok (if ok then .tuple #[v, .bool true] else v) w := by
  obtain ⟨es, clock, hb, hs, h3, h4⟩ := h
  rcases find_key h3 h4 k with ⟨q, _⟩ | ⟨j, e, q1, q2, q3, q4⟩
  · rw [hk] at q; cases q
  · rw [hk] at q4
    injection q4 with q4
    subst q4
    unfold Instr.lookup
    simp only [Sem.run_bind, run_underlying hT, Result.andThen_ok, MapKept.run_getObj_map hb, Sem.run_pure]
    rw [MapKept.run_checkKey hK (show MapKept.IsKey .string (kS k) from trivial)]
    simp only [Result.andThen_ok, MapKept.run_findKey hK q1]
    cases ok <;> rfl
theorem Mp.look_none (h : Mp w b f) (hT : P.underlying T = some (.map K E)) (hK : P.underlying K = some .string) {z : Value} (hz : (zeroValue E).run P w = .ok z w) {k : Bs} (hk : f k = none) (ok : Bool) :
    (Instr.lookup T (.map (some b)) (kS k) ok).run P w = .ok (if ok then .tuple #[z, .bool false] else z) w := by
  obtain ⟨es, clock, hb, hs, h3, h4⟩ := h
  rcases find_key h3 h4 k with ⟨_, q1, _⟩ | ⟨j, e, q1, q2, q3, q4⟩
  · unfold Instr.lookup
    simp only [Sem.run_bind, run_underlying hT, Result.andThen_ok, MapKept.run_getObj_map hb, Sem.run_pure]
    rw [MapKept.run_checkKey hK (show MapKept.IsKey .string (kS k) from trivial)]
    simp only [Result.andThen_ok, MapKept.run_findKey hK q1, hz, Sem.run_bind, Sem.run_pure]
  · rw [hk] at q4; cases q4
theorem put_heap {w : World} {b : Nat} {o : Obj} (hb : b < w.heap.size) : (w.putObj b o).heap[b]? = some o := World.putObj_heap_same hb
theorem Mp.update (h : Mp w b f) (hT : P.underlying T = some (.map K E)) (hK : P.underlying K = some .string) (k : Bs) (v : Value) :
    ∃ o, (Instr.mapUpdate T (.map (some b)) (kS k) v).run P w = .ok () (w.putObj b o) ∧ Mp (w.putObj b o) b (upd f k (some v)) := by
  have hlt := h.lt
  obtain ⟨es, clock, hb, hs, h3, h4⟩ := h
  rcases find_key h3 h4 k with ⟨q0, q1, q2⟩ | ⟨j, e, q1, q2, q3, q4⟩
  · refine ⟨.map (es.push { key := kS k, val := v, born := clock }) (clock + 1), ?_, _, _, put_heap hlt, stamped_push hs q2, fun x hx => ?_, fun k' v' => ?_⟩
    · unfold Instr.mapUpdate
      simp only [Sem.run_bind, run_underlying hT, Result.andThen_ok, MapKept.run_getObj_map hb]
      rw [MapKept.run_checkKey hK (show MapKept.IsKey .string (kS k) from trivial)]
      simp only [Result.andThen_ok, MapKept.run_findKey hK q1]
      rw [MapKept.run_setObj_map _ hb]
      rfl
    · rw [Array.toList_push] at hx
      rcases List.mem_append.1 hx with hx | hx
      · exact h3 x hx
      · rw [List.mem_singleton] at hx; subst hx; exact ⟨k, rfl⟩
    · rw [Array.toList_push]
      by_cases e : k' = k
      · subst e
        rw [upd_same]
        constructor
        · intro hv; injection hv with hv; subst hv
          exact ⟨_, List.mem_append_right _ (List.mem_singleton.2 rfl), rfl, rfl⟩
        · rintro ⟨x, hx, e1, rfl⟩
          rcases List.mem_append.1 hx with hx | hx
          · exact absurd e1 (q2 x hx)
          · rw [List.mem_singleton] at hx; subst hx; rfl
      · rw [upd_ne _ _ e, h4]
        constructor
        · rintro ⟨x, hx, e1, e2⟩; exact ⟨x, List.mem_append_left _ hx, e1, e2⟩
        · rintro ⟨x, hx, e1, e2⟩
          rcases List.mem_append.1 hx with hx | hx
          · exact ⟨x, hx, e1, e2⟩
          · rw [List.mem_singleton] at hx; subst hx; exact absurd (kS_inj e1).symm e
  · have hmem : ∀ x, x ∈ (es.modify j fun e => { e with key := kS k, val := v }).toList ↔ (x ∈ es.toList ∧ x.key ≠ kS k) ∨ x = { e with key := kS k, val := v } := fun x => by
      constructor
      · intro hx
        obtain ⟨i, hi⟩ := List.mem_iff_getElem?.1 hx
        rw [Array.getElem?_toList, Array.getElem?_modify] at hi
        by_cases hij : j = i
        · subst hij
          rw [if_pos rfl, q2] at hi
          simp at hi
          exact .inr hi.symm
        · rw [if_neg hij] at hi
          have hx' : x ∈ es.toList := List.mem_of_getElem? (by rw [Array.getElem?_toList]; exact hi)
          refine .inl ⟨hx', fun hk => hij ?_⟩
          have hex : x = e := keys_once hs hx' (List.mem_of_getElem? (by rw [Array.getElem?_toList]; exact q2)) (hk.trans q3.symm)
          subst hex
          have hn := hs.2.2
          have hi' : es.toList[i]? = some x := by rw [Array.getElem?_toList]; exact hi
          have hj' : es.toList[j]? = some x := by rw [Array.getElem?_toList]; exact q2
          have hil := (List.getElem?_eq_some_iff.1 hi').1
          have hjl := (List.getElem?_eq_some_iff.1 hj').1
          have hnd : es.toList.Nodup := nodup_of_keys hs
          exact (List.getElem?_inj hjl hnd).1 (hj'.trans hi'.symm)
      · rintro (⟨hx, hne⟩ | rfl)
        · obtain ⟨i, hi⟩ := List.mem_iff_getElem?.1 hx
          rw [Array.getElem?_toList] at hi
          refine List.mem_iff_getElem?.2 ⟨i, ?_⟩
          rw [Array.getElem?_toList, Array.getElem?_modify, if_neg ?_]
          · exact hi
          · intro hij; subst hij; rw [q2] at hi; injection hi with hi; subst hi; exact hne q3
        · refine List.mem_iff_getElem?.2 ⟨j, ?_⟩
          rw [Array.getElem?_toList, Array.getElem?_modify, if_pos rfl, q2]
          rfl
    refine ⟨.map (es.modify j fun e => { e with key := kS k, val := v }) clock, ?_, _, _, put_heap hlt, stamped_modify hs _ _ (fun _ _ => rfl) (fun e' _ he' => by rw [q2] at he'; injection he' with he'; subst he'; exact q3.symm), fun x hx => ?_, fun k' v' => ?_⟩
    · unfold Instr.mapUpdate
      simp only [Sem.run_bind, run_underlying hT, Result.andThen_ok, MapKept.run_getObj_map hb]
      rw [MapKept.run_checkKey hK (show MapKept.IsKey .string (kS k) from trivial)]
      simp only [Result.andThen_ok, MapKept.run_findKey hK q1]
      simp only [q2, Option.map_some, Option.getD_some, q3, run_keyThatStays (d := .string) (k := kS k) trivial, Sem.run_bind, Result.andThen_ok]
      rw [MapKept.run_setObj_map _ hb]
      rfl
    · rcases (hmem x).1 hx with ⟨hx, _⟩ | rfl
      · exact h3 x hx
      · exact ⟨k, rfl⟩
    · by_cases e0 : k' = k
      · subst e0
        rw [upd_same]
        constructor
        · intro hv; injection hv with hv; subst hv
          exact ⟨_, (hmem _).2 (.inr rfl), rfl, rfl⟩
        · rintro ⟨x, hx, e1, rfl⟩
          rcases (hmem x).1 hx with ⟨_, hne⟩ | rfl
          · exact absurd e1 hne
          · rfl
      · rw [upd_ne _ _ e0, h4]
        constructor
        · rintro ⟨x, hx, e1, e2⟩
          exact ⟨x, (hmem x).2 (.inl ⟨hx, fun e3 => e0 (kS_inj (e1.symm.trans e3))⟩), e1, e2⟩
        · rintro ⟨x, hx, e1, e2⟩
          rcases (hmem x).1 hx with ⟨hx, _⟩ | rfl
          · exact ⟨x, hx, e1, e2⟩
          · exact absurd (kS_inj e1).symm e0
theorem Mp.delete (h : Mp w b f) (hT : P.underlying T = some (.map K E)) (hK : P.underlying K = some .string) (k : Bs) :
    ∃ o, (∀ ty, (Builtin.delete_ #[T, K] ty #[.map (some b), kS k]).run P w = .ok (.tuple #[]) (w.putObj b o)) ∧ Mp (w.putObj b o) b (upd f k none) := by
  have hlt := h.lt
  obtain ⟨es, clock, hb, hs, h3, h4⟩ := h
  rcases find_key h3 h4 k with ⟨q0, q1, q2⟩ | ⟨j, e, q1, q2, q3, q4⟩
  · refine ⟨.map es clock, ?_, _, _, put_heap hlt, hs, h3, fun k' v' => ?_⟩
    · intro ty
      simp [Builtin.delete_, run_underlying hT, MapKept.run_getObj_map hb, MapKept.run_checkKey hK (show MapKept.IsKey .string (kS k) from trivial), MapKept.run_findKey hK q1, MapKept.run_setObj_map _ hb, Result.andThen]
      rfl
    · rw [← h4]
      by_cases e : k' = k
      · subst e; rw [upd_same, q0]
      · rw [upd_ne _ _ e]
  · have hjl : j < es.size := (Array.getElem?_eq_some_iff.1 q2).1
    have hmem : ∀ x, x ∈ (es.eraseIdxIfInBounds j).toList ↔ x ∈ es.toList ∧ x.key ≠ kS k := fun x => by
      have e1 : (es.eraseIdxIfInBounds j).toList = es.toList.eraseIdx j := by
        unfold Array.eraseIdxIfInBounds
        rw [dif_pos hjl, Array.toList_eraseIdx]
      rw [e1, List.mem_eraseIdx_iff_getElem?]
      have hnd : es.toList.Nodup := nodup_of_keys hs
      have hj' : es.toList[j]? = some e := by rw [Array.getElem?_toList]; exact q2
      constructor
      · rintro ⟨i, hij, hi⟩
        have hx' : x ∈ es.toList := List.mem_of_getElem? hi
        refine ⟨hx', fun hk => hij ?_⟩
        have hex : x = e := keys_once hs hx' (List.mem_of_getElem? hj') (hk.trans q3.symm)
        subst hex
        exact (List.getElem?_inj (List.getElem?_eq_some_iff.1 hi).1 hnd).1 (hi.trans hj'.symm)
      · rintro ⟨hx, hne⟩
        obtain ⟨i, hi⟩ := List.mem_iff_getElem?.1 hx
        refine ⟨i, fun hij => ?_, hi⟩
        subst hij
        rw [hj'] at hi; injection hi with hi; subst hi; exact hne q3
    refine ⟨.map (es.eraseIdxIfInBounds j) clock, ?_, _, _, put_heap hlt, stamped_erase hs _, fun x hx => h3 x ((hmem x).1 hx).1, fun k' v' => ?_⟩
    · intro ty
      simp [Builtin.delete_, run_underlying hT, MapKept.run_getObj_map hb, MapKept.run_checkKey hK (show MapKept.IsKey .string (kS k) from trivial), MapKept.run_findKey hK q1, MapKept.run_setObj_map _ hb, Result.andThen]
      rfl
    · by_cases e0 : k' = k
      · subst e0
        rw [upd_same]
        constructor
        · intro hv; cases hv
        · rintro ⟨x, hx, e1, _⟩; exact absurd e1 ((hmem x).1 hx).2
      · rw [upd_ne _ _ e0, h4]
        constructor
        · rintro ⟨x, hx, e1, e2⟩
          exact ⟨x, (hmem x).2 ⟨hx, fun e3 => e0 (kS_inj (e1.symm.trans e3))⟩, e1, e2⟩
        · rintro ⟨x, hx, e1, e2⟩
          exact ⟨x, ((hmem x).1 hx).1, e1, e2⟩
/-- how many there are: as many as a list of all keys, each once -/
theorem Mp.len (h : Mp w b f) (hT : P.underlying T = some (.map K E)) (L : List Bs) (hn : L.Nodup) (hL : ∀ k, k ∈ L ↔ (f k).isSome = true) (ty : TypeId) :
    (Builtin.len_ #[T] ty #[.map (some b)]).run P w = .ok (.int .i64 (L.length : Int)) w := by
  obtain ⟨es, clock, hb, hs, h3, h4⟩ := h
  have e : es.size = L.length := by
    have hp : (es.toList.map (·.key)).Perm (L.map kS) := by
      refine (List.perm_ext_iff_of_nodup hs.2.2 (List.Pairwise.map _ (fun a b hab e => hab (kS_inj e)) hn)).2 fun v => ?_
      rw [List.mem_map, List.mem_map]
      constructor
      · rintro ⟨x, hx, rfl⟩
        obtain ⟨k, hk⟩ := h3 x hx
        refine ⟨k, (hL k).2 ?_, hk.symm⟩
        rw [(h4 k x.val).2 ⟨x, hx, hk, rfl⟩]; rfl
      · rintro ⟨k, hk, rfl⟩
        obtain ⟨v, hv⟩ := Option.isSome_iff_exists.1 ((hL k).1 hk)
        obtain ⟨x, hx, e, _⟩ := (h4 k v).1 hv
        exact ⟨x, hx, e⟩
    have := hp.length_eq
    simpa using this
  rw [← e]
  simp [Builtin.len_, run_underlying hT, MapKept.run_getObj_map hb, Result.andThen]
  rfl
theorem len_sub {α : Type} : ∀ {l m : List α}, l.Nodup → (∀ v ∈ l, v ∈ m) → l.length ≤ m.length
  | [], _, _, _ => Nat.zero_le _
  | x :: r, m, hn, h => by
    obtain ⟨n1, n2⟩ := List.nodup_cons.1 hn
    obtain ⟨a, c, rfl⟩ := List.append_of_mem (h x List.mem_cons_self)
    have := len_sub (m := a ++ c) n2 fun v hv => by
      have := h v (List.mem_cons_of_mem _ hv)
      rw [List.mem_append, List.mem_cons] at this
      rcases this with k | k | k
      · exact List.mem_append_left _ k
      · subst k; exact absurd hv n1
      · exact List.mem_append_right _ k
    simp only [List.length_append, List.length_cons] at this ⊢
    omega
/-- every value reads as itself -/
def RR : Value → Option (DataW Value × List MemPlace) := fun v => some (.held v, [])
theorem Mp.owns (h : Mp w b f) (hK : P.underlying K = some .string) (L : List Bs) (hL : ∀ k, (f k).isSome = true → k ∈ L ∧ k.length ≤ 1000000) (hl : L.length ≤ 1000000) :
    ∃ D0, w.ownsMap P K RR b L.length D0 ∧ (∀ x, Maps.has D0 (.string x) = true ↔ (f x).isSome = true) ∧ Maps.size D0 ≤ L.length ∧ (strKeys D0).Nodup := by
  obtain ⟨es, clock, hb, hs, h3, h4⟩ := h
  have hin : ∀ x ∈ es.toList, ∃ k : Bs, x.key = kS k ∧ k ∈ L ∧ k.length ≤ 1000000 ∧ f k = some x.val := fun x hx => by
    obtain ⟨k, hk⟩ := h3 x hx
    have e := (h4 k x.val).2 ⟨x, hx, hk, rfl⟩
    obtain ⟨q1, q2⟩ := hL k (by rw [e]; rfl)
    exact ⟨k, hk, q1, q2, e⟩
  have hsz : es.size ≤ L.length := by
    have hsub : ∀ v ∈ es.toList.map (·.key), v ∈ L.map kS := fun v hv => by
      obtain ⟨x, hx, rfl⟩ := List.mem_map.1 hv
      obtain ⟨k, e, q, _⟩ := hin x hx
      exact List.mem_map.2 ⟨k, q, e.symm⟩
    have := len_sub hs.2.2 hsub
    simpa using this
  have hrd : ∀ x ∈ es.toList, ∀ k : Bs, x.key = kS k → k.length ≤ 1000000 → Go.WideElems.rd P K RR x = some (.string k, .held x.val) := fun x hx k hk hle => by
    obtain ⟨xk, xv, xb⟩ := x
    simp only at hk
    subst hk
    refine Go.WideElems.rd_mk (yv := (.held xv, [])) ?_ rfl
    have := Go.WideMaps.keyOf_string_mk (s := ⟨k.toArray⟩) hK (by show k.toArray.size ≤ maxLen; rw [List.size_toArray]; unfold maxLen; omega)
    rw [this]
  have F : Go.WideElems.Fit P K RR es clock := ⟨by unfold maxLen; omega, hs, fun x hx => by obtain ⟨k, q1, _, q3, _⟩ := hin x hx; exact ⟨_, hrd x hx k q1 q3⟩⟩
  refine ⟨_, ⟨es, clock, hb, F, hsz, rfl⟩, fun x => ?_, ?_, ?_⟩
  · rw [Maps.has_eq, List.any_eq_true]
    constructor
    · rintro ⟨p, hp, hsame⟩
      obtain ⟨y, hy, rfl⟩ := List.mem_map.1 (mem_sorted.1 hp)
      obtain ⟨k, q1, _, q3, q4⟩ := hin y hy
      rw [Go.WideElems.rg_of (hrd y hy k q1 q3)] at hsame
      have : k = x := by simpa [Lit.sameKey] using hsame
      rw [← this, q4]; rfl
    · intro hx
      obtain ⟨v, hv⟩ := Option.isSome_iff_exists.1 hx
      obtain ⟨y, hy, e1, e2⟩ := (h4 x v).1 hv
      refine ⟨Go.WideElems.rg P K RR y, mem_sorted.2 (List.mem_map.2 ⟨y, hy, rfl⟩), ?_⟩
      rw [Go.WideElems.rg_of (hrd y hy x e1 (hL x hx).2)]
      simp [Lit.sameKey]
  · exact Nat.le_trans (World.ownsMap.size_le (w := w) (b := b) (P := P) (k := K) (R := RR) ⟨es, clock, hb, F, Nat.le_refl _, rfl⟩) hsz
  · show (((es.toList.map (Go.WideElems.rg P K RR)).foldr DataW.insert []).map fun p => strOf p.1).Nodup
    have hp := (Go.WideShapes.sorted_perm (es.toList.map (Go.WideElems.rg P K RR))).map fun p => strOf p.1
    rw [hp.nodup_iff, List.map_map]
    refine List.pairwise_map.2 ?_
    refine List.Pairwise.imp_of_mem (R := fun x y => x.key ≠ y.key) (fun {x y} hx hy hne e => hne ?_) (List.pairwise_map.1 hs.2.2)
    obtain ⟨k, q1, _, q3, _⟩ := hin x hx
    obtain ⟨k', q1', _, q3', _⟩ := hin y hy
    simp only [Function.comp, Go.WideElems.rg_of (hrd x hx k q1 q3), Go.WideElems.rg_of (hrd y hy k' q1' q3'), strOf] at e
    rw [q1, q1', e]
end
end Go.Proofs.Ytlfncnnfpniigaa.Dq
