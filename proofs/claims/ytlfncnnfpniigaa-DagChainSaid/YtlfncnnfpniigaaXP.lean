/-
  Above, on lists: what is seen, and what is still to look at.
-/
import Derived.Test.YtlfncnnfpniigaaXO
namespace Go.Proofs.Ytlfncnnfpniigaa.Dq
open Go Go.RowKit Kt Kg Lw Tr

theorem on_level {D : List Nd} (h : Inv D) {a b : Bs} (ho : On D a b) : level D a ≤ level D b := by
  induction ho with
  | self => exact Int.le_refl _
  | step hp _ ih => have := level_below h hp; omega
structure Ab (D : List Nd) (a b : Bs) (seen T : List Bs) : Prop where
  once : seen.Nodup
  sub : ∀ y ∈ T, y ∈ seen
  on : ∀ y ∈ seen, On D y b
  b_in : b ∈ seen
  shut : ∀ y ∈ seen, y ∉ T → y ≠ a ∧ (level D y ≤ level D a ∨ ∀ p ∈ parents D y, p ∈ seen)
/-- one is looked at: so many of its parents are seen -/
structure AbI (D : List Nd) (a b : Bs) (seen T : List Bs) (id : Bs) (k : Nat) : Prop where
  once : seen.Nodup
  sub : ∀ y ∈ T, y ∈ seen
  on : ∀ y ∈ seen, On D y b
  b_in : b ∈ seen
  id_in : id ∈ seen
  ne : id ≠ a
  shut : ∀ y ∈ seen, y ∉ T → y ≠ id → y ≠ a ∧ (level D y ≤ level D a ∨ ∀ p ∈ parents D y, p ∈ seen)
  ps : ∀ p ∈ (parents D id).take k, p ∈ seen
section
variable {D : List Nd} {a b : Bs} {seen T : List Bs} {id : Bs} {k : Nat}
theorem Ab.start (D : List Nd) (a b : Bs) : Ab D a b [b] [b] :=
  ⟨List.nodup_cons.2 ⟨by simp, List.nodup_nil⟩, fun _ h => h, fun y hy => by rw [List.mem_singleton.1 hy]; exact .self _, List.mem_cons_self, fun y hy hn => absurd hy hn⟩
theorem Ab.pop (h : Ab D a b seen (T ++ [id])) (hne : id ≠ a) : AbI D a b seen T id 0 :=
  ⟨h.once, fun y hy => h.sub y (List.mem_append_left _ hy), h.on, h.b_in, h.sub id (List.mem_append_right _ List.mem_cons_self), hne, fun y hy hn hi => h.shut y hy fun hm => (List.mem_append.1 hm).elim hn fun e => hi (List.mem_singleton.1 e), fun p hp => by simp at hp⟩
theorem Ab.skip (h : Ab D a b seen (T ++ [id])) (hne : id ≠ a) (hl : level D id ≤ level D a) : Ab D a b seen T :=
  ⟨h.once, fun y hy => h.sub y (List.mem_append_left _ hy), h.on, h.b_in, fun y hy hn => by
    by_cases e : y = id
    · subst e; exact ⟨hne, .inl hl⟩
    · exact h.shut y hy fun hm => (List.mem_append.1 hm).elim hn fun e2 => e (List.mem_singleton.1 e2)⟩
theorem AbI.old (h : AbI D a b seen T id k) {x : Bs} (hx : (parents D id)[k]? = some x) (hs : x ∈ seen) : AbI D a b seen T id (k + 1) :=
  ⟨h.once, h.sub, h.on, h.b_in, h.id_in, h.ne, h.shut, fun p hp => by
    rw [List.take_add_one, hx] at hp
    rcases List.mem_append.1 hp with hp | hp
    · exact h.ps p hp
    · rw [List.mem_singleton.1 (show p ∈ [x] from hp)]; exact hs⟩
theorem AbI.new (h : AbI D a b seen T id k) {x : Bs} (hx : (parents D id)[k]? = some x) (hs : x ∉ seen) : AbI D a b (x :: seen) (T ++ [x]) id (k + 1) := by
  have hm : x ∈ parents D id := List.mem_of_getElem? hx
  refine ⟨List.nodup_cons.2 ⟨hs, h.once⟩, fun y hy => ?_, fun y hy => ?_, List.mem_cons_of_mem _ h.b_in, List.mem_cons_of_mem _ h.id_in, h.ne, fun y hy hn hi => ?_, fun p hp => ?_⟩
  · rcases List.mem_append.1 hy with k | k
    · exact List.mem_cons_of_mem _ (h.sub y k)
    · rw [List.mem_singleton.1 k]; exact List.mem_cons_self
  · rcases List.mem_cons.1 hy with k | k
    · rw [k]; exact On.trans (.step hm (.self _)) (h.on id h.id_in)
    · exact h.on y k
  · rcases List.mem_cons.1 hy with k | k
    · exact absurd (List.mem_append_right T (List.mem_singleton.2 k)) hn
    · have := h.shut y k (fun q => hn (List.mem_append_left _ q)) hi
      exact ⟨this.1, this.2.imp (fun z => z) fun z p hp => List.mem_cons_of_mem _ (z p hp)⟩
  · rw [List.take_add_one, hx] at hp
    rcases List.mem_append.1 hp with hp | hp
    · exact List.mem_cons_of_mem _ (h.ps p hp)
    · rw [List.mem_singleton.1 (show p ∈ [x] from hp)]; exact List.mem_cons_self
theorem AbI.done (h : AbI D a b seen T id k) (hk : (parents D id).length ≤ k) : Ab D a b seen T :=
  ⟨h.once, h.sub, h.on, h.b_in, fun y hy hn => by
    by_cases e : y = id
    · subst e; exact ⟨h.ne, .inr fun p hp => h.ps p (by rw [List.take_of_length_le hk]; exact hp)⟩
    · exact h.shut y hy hn e⟩
theorem Ab.found (hI : Inv D) (hb : has D b = true) (h : Ab D a b seen T) (ha : a ∈ T) : above D a b = true := (above_iff hI).2 ⟨hb, h.on a (h.sub a ha)⟩
theorem Ab.over (hI : Inv D) (h : Ab D a b seen []) : above D a b = false := by
  cases hab : above D a b with
  | false => rfl
  | true =>
    obtain ⟨_, ho⟩ := (above_iff hI).1 hab
    have key : ∀ y, On D a y → y ∈ seen → False := fun y ho => by
      induction ho with
      | self => exact fun hy => (h.shut _ hy (by simp)).1 rfl
      | step hp ho2 ih =>
        intro hy
        rcases (h.shut _ hy (by simp)).2 with k | k
        · have h1 := on_level hI ho2
          have h2 := level_below hI hp
          omega
        · exact ih (k _ hp)
    exact (key b ho h.b_in).elim
theorem above_out (hI : Inv D) (h : has D a = false ∨ has D b = false) : above D a b = false := by
  cases hab : above D a b with
  | false => rfl
  | true =>
    obtain ⟨hb, ho⟩ := (above_iff hI).1 hab
    rcases h with h | h
    · rw [on_has hI ho hb] at h; cases h
    · rw [hb] at h; cases h
theorem AbI.few (h : AbI D a b seen T id k) (hI : Inv D) (hb : has D b = true) (hf : D.length ≤ 20) : seen.length ≤ 20 := by
  have := len_sub (m := all D true) h.once fun y hy => (all_in hI.up y).2 (on_has hI (h.on y hy) hb)
  have := all_len D true
  omega
end
/-- how many a map holds -/
def mapCnt (w : World) (b : Nat) : Nat :=
  match w.heap[b]? with
  | some (.map es _) => es.size
  | _ => 0
theorem Mp.cnt {w : World} {b : Nat} {f : Bs → Option Value} (h : Mp w b f) (L : List Bs) (hn : L.Nodup) (hL : ∀ k, k ∈ L ↔ (f k).isSome = true) : mapCnt w b = L.length := by
  obtain ⟨es, clock, hb, hs, h3, h4⟩ := h
  have hp : (es.toList.map (·.key)).Perm (L.map kS) := by
    refine (List.perm_ext_iff_of_nodup hs.2.2 (List.Pairwise.map _ (fun a b hab e => hab (kS_inj e)) hn)).2 fun v => ?_
    rw [List.mem_map, List.mem_map]
    constructor
    · rintro ⟨x, hx, rfl⟩
      obtain ⟨k, hk⟩ := h3 x hx
      refine ⟨k, (hL k).2 ?_, hk.symm⟩
      rw [(h4 k x.val).2 ⟨x, hx, hk, rfl⟩]; rfl
    · rintro ⟨k, hk, rfl⟩
      obtain ⟨v, hv⟩ := Option.isSome_iff_exists.1 ((hL k).1 hk)
      obtain ⟨x, hx, e, _⟩ := (h4 k v).1 hv
      exact ⟨x, hx, e⟩
  have := hp.length_eq
  unfold mapCnt
  rw [hb]
  simpa using this
end Go.Proofs.Ytlfncnnfpniigaa.Dq
