/-
  Changes of two sides; what is between two trees. On lists alone: no program is named here.
-/
import Derived.Test.YtabgkfkjnpcbkaaDoorQTX
import Derived.BigQuiet
import Derived.Laws.StructEq
import Derived.Test.YtabgkfkjnpcbkaaDoorQTH
import Derived.Test.YtabgkfkjnpcbkaaDoorQPF
import Derived.Test.YtabgkfkjnpcbkaaDoorQWS
namespace Go.Proofs.YtabgkfkjnpcbkaaDoor.Tr
open Go

/-- the changes of one side, and of the other one -/
def sides : List Ch → List Bool → List Ch × List Ch
  | [], _ => ([], [])
  | c :: l, [] => ((sides l []).1, c :: (sides l []).2)
  | c :: l, b :: s => if b then (c :: (sides l s).1, (sides l s).2) else ((sides l s).1, c :: (sides l s).2)
theorem sides_mem : ∀ {l : List Ch} {s : List Bool} {c : Ch}, c ∈ l ↔ c ∈ (sides l s).1 ∨ c ∈ (sides l s).2
  | [], _, c => by simp [sides]
  | d :: l, [], c => by
    rw [sides, List.mem_cons, List.mem_cons, sides_mem (l := l) (s := [])]
    constructor
    · rintro (h | h | h)
      · exact .inr (.inl h)
      · exact .inl h
      · exact .inr (.inr h)
    · rintro (h | h | h)
      · exact .inr (.inl h)
      · exact .inl h
      · exact .inr (.inr h)
  | d :: l, b :: s, c => by
    rw [sides, List.mem_cons, sides_mem (l := l) (s := s)]
    cases b with
    | true =>
      rw [if_pos rfl, List.mem_cons]
      constructor
      · rintro (h | h | h)
        · exact .inl (.inl h)
        · exact .inl (.inr h)
        · exact .inr h
      · rintro ((h | h) | h)
        · exact .inl h
        · exact .inr (.inl h)
        · exact .inr (.inr h)
    | false =>
      rw [if_neg (by decide), List.mem_cons]
      constructor
      · rintro (h | h | h)
        · exact .inr (.inl h)
        · exact .inl h
        · exact .inr (.inr h)
      · rintro (h | h | h)
        · exact .inr (.inl h)
        · exact .inl h
        · exact .inr (.inr h)
theorem sides_len : ∀ (l : List Ch) (s : List Bool), (sides l s).1.length + (sides l s).2.length = l.length
  | [], _ => rfl
  | c :: l, [] => by
    have := sides_len l []
    rw [sides]
    simp only [List.length_cons]; omega
  | c :: l, b :: s => by
    have := sides_len l s
    rw [sides]
    split <;> (simp only [List.length_cons]; omega)
theorem sides_go : ∀ {p : Option Bs} {l : List Ch} (s : List Bool), cgo p l = true → cgo p (sides l s).1 = true ∧ cgo p (sides l s).2 = true ∧ ∀ c ∈ (sides l s).1, ∀ d ∈ (sides l s).2, c.path ≠ d.path
  | p, [], _, _ => ⟨rfl, rfl, fun c hc => by cases hc⟩
  | p, c :: l, [], h => by
    obtain ⟨h1, h2, h3, h4, h5⟩ := cgo_cons h
    obtain ⟨i1, i2, i3⟩ := sides_go [] h5
    have hin : ∀ x ∈ (sides l []).1, lt c.path x.path = true := fun x hx => (cgo_above i1 x hx).1
    rw [sides]
    refine ⟨cgo_weak i1 fun x hx => above_trans h4 (hin x hx), cgo_of h1 h2 h3 h4 i2, fun x hx d hd => ?_⟩
    rcases List.mem_cons.1 hd with k | k
    · rw [k]; exact (lt_ne (hin x hx)).symm
    · exact i3 x hx d k
  | p, c :: l, b :: s, h => by
    obtain ⟨h1, h2, h3, h4, h5⟩ := cgo_cons h
    obtain ⟨i1, i2, i3⟩ := sides_go s h5
    have hin1 : ∀ x ∈ (sides l s).1, lt c.path x.path = true := fun x hx => (cgo_above i1 x hx).1
    have hin2 : ∀ x ∈ (sides l s).2, lt c.path x.path = true := fun x hx => (cgo_above i2 x hx).1
    rw [sides]
    cases b with
    | true =>
      rw [if_pos rfl]
      refine ⟨cgo_of h1 h2 h3 h4 i1, cgo_weak i2 fun x hx => above_trans h4 (hin2 x hx), fun x hx d hd => ?_⟩
      rcases List.mem_cons.1 hx with k | k
      · rw [k]; exact lt_ne (hin2 d hd)
      · exact i3 x k d hd
    | false =>
      rw [if_neg (by decide)]
      refine ⟨cgo_weak i1 fun x hx => above_trans h4 (hin1 x hx), cgo_of h1 h2 h3 h4 i2, fun x hx d hd => ?_⟩
      rcases List.mem_cons.1 hd with k | k
      · rw [k]; exact (lt_ne (hin1 x hx)).symm
      · exact i3 x hx d k
/-- one side's changes, and then the other one's, are all -/
theorem play_sides {l x y : List Ch} {t : List Fl} (hl : cgo none l = true) (hx : cgo none x = true) (hy : cgo none y = true) (ht : go none t = true) (hm : ∀ c, c ∈ l ↔ c ∈ x ∨ c ∈ y) (hd : ∀ c ∈ x, ∀ d ∈ y, c.path ≠ d.path) (hn : t.length + l.length + x.length + y.length ≤ 1000) :
    play (play t x) y = play t l := by
  obtain ⟨a1, a2, a3⟩ := play_any hl ht (by omega)
  obtain ⟨b1, b2, b3⟩ := play_any hx ht (by omega)
  obtain ⟨c1, _, c3⟩ := play_any hy b1 (by omega)
  refine go_ext c1 a1 fun f => ?_
  rw [c3, a3, b3]
  constructor
  · rintro (⟨c, hc, h⟩ | ⟨⟨c, hc, h⟩ | ⟨hf, h1⟩, h2⟩)
    · exact .inl ⟨c, (hm c).2 (.inr hc), h⟩
    · exact .inl ⟨c, (hm c).2 (.inl hc), h⟩
    · refine .inr ⟨hf, fun c hc => ?_⟩
      rcases (hm c).1 hc with k | k
      · exact h1 c k
      · exact h2 c k
  · rintro (⟨c, hc, h⟩ | ⟨hf, h1⟩)
    · rcases (hm c).1 hc with k | k
      · exact .inr ⟨.inl ⟨c, k, h⟩, fun d hd' => by rw [h.2]; exact hd c k d hd'⟩
      · exact .inl ⟨c, k, h⟩
    · exact .inr ⟨.inr ⟨hf, fun c hc => h1 c ((hm c).2 (.inl hc))⟩, fun c hc => h1 c ((hm c).2 (.inr hc))⟩
theorem one_of_right (mg : Bs → Bs → Bs → Bs × Nat) {o a b : List Fl} {p : Bs} (h : get a p = get o p) : one mg o a b p = ((get b p).1, (get b p).2, false) := by
  unfold one
  by_cases h1 : get a p = get b p ∨ get b p = get o p
  · rw [if_pos h1]
    have : get a p = get b p := h1.elim id fun h2 => h.trans h2.symm
    rw [this]
  · rw [if_neg h1, if_pos h]
theorem one_of_left (mg : Bs → Bs → Bs → Bs × Nat) {o a b : List Fl} {p : Bs} (h : get b p = get o p) : one mg o a b p = ((get a p).1, (get a p).2, false) := by
  unfold one
  rw [if_pos (.inr h)]
/-- changes of unlike files, put together, are all done -/
theorem trees_blend (mg : Bs → Bs → Bs → Bs × Nat) {l x y : List Ch} {t : List Fl} (hl : cgo none l = true) (hx : cgo none x = true) (hy : cgo none y = true) (ht : go none t = true) (hm : ∀ c, c ∈ l ↔ c ∈ x ∨ c ∈ y) (hd : ∀ c ∈ x, ∀ d ∈ y, c.path ≠ d.path) (hn : 2 * t.length + l.length + x.length + y.length ≤ 1000) :
    trees mg t (play t x) (play t y) = (play t l, []) := by
  obtain ⟨a1, a2, a3⟩ := play_any hl ht (by omega)
  obtain ⟨b1, b2, b3⟩ := play_any hx ht (by omega)
  obtain ⟨c1, c2, c3⟩ := play_any hy ht (by omega)
  rw [trees_is mg t (by omega)]
  have hh : ∀ p, one mg t (play t x) (play t y) p = ((get (play t l) p).1, (get (play t l) p).2, false) := fun p => by
    by_cases h1 : ∃ c ∈ x, c.path = p
    · obtain ⟨c, hc, rfl⟩ := h1
      rw [one_of_left mg (play_get_out hy ht (by omega) fun d hd' e => hd c hc d hd' e.symm), play_get_in hx ht (by omega) hc, play_get_in hl ht (by omega) ((hm c).2 (.inl hc))]
    · have k1 : ∀ c ∈ x, c.path ≠ p := fun c hc e => h1 ⟨c, hc, e⟩
      rw [one_of_right mg (play_get_out hx ht (by omega) k1)]
      by_cases h2 : ∃ c ∈ y, c.path = p
      · obtain ⟨c, hc, rfl⟩ := h2
        rw [play_get_in hy ht (by omega) hc, play_get_in hl ht (by omega) ((hm c).2 (.inr hc))]
      · have k2 : ∀ c ∈ y, c.path ≠ p := fun c hc e => h2 ⟨c, hc, e⟩
        rw [play_get_out hy ht (by omega) k2, play_get_out hl ht (by omega) fun c hc => ((hm c).1 hc).elim (k1 c) (k2 c)]
  obtain ⟨e1, e2⟩ := outs_all a1 (asc_both (play t x) (play t y)) (fun p hp => can_both b1 c1 hp) hh fun f hf => mem_both.2 (by
    rcases (a3 f).1 hf with ⟨c, hc, hg⟩ | ⟨hf, ha⟩
    · rcases (hm c).1 hc with k | k
      · exact .inl ⟨f, (b3 f).2 (.inl ⟨c, k, hg⟩), rfl⟩
      · exact .inr ⟨f, (c3 f).2 (.inl ⟨c, k, hg⟩), rfl⟩
    · exact .inl ⟨f, (b3 f).2 (.inr ⟨hf, fun c hc => ha c ((hm c).2 (.inl hc))⟩), rfl⟩)
  rw [e1, e2]
/-- what is between two trees, at a path -/
def chOf (a b : List Fl) (p : Bs) : Option Ch := if get a p = get b p then none else some ⟨p, !(get b p).2, (get b p).1⟩
def betw (a b : List Fl) : List Ch := (both a b).filterMap (chOf a b)
theorem chOf_some {a b : List Fl} {p : Bs} {c : Ch} (h : chOf a b p = some c) : get a p ≠ get b p ∧ c = ⟨p, !(get b p).2, (get b p).1⟩ := by
  unfold chOf at h
  split at h
  · cases h
  · next hne => exact ⟨hne, (Option.some.inj h).symm⟩
theorem mem_betw {a b : List Fl} {c : Ch} : c ∈ betw a b ↔ c.path ∈ both a b ∧ chOf a b c.path = some c := by
  unfold betw
  rw [List.mem_filterMap]
  constructor
  · rintro ⟨p, hp, h⟩
    obtain ⟨_, rfl⟩ := chOf_some h
    exact ⟨hp, h⟩
  · rintro ⟨h1, h2⟩
    exact ⟨_, h1, h2⟩
theorem betw_len (a b : List Fl) : (betw a b).length ≤ a.length + b.length := Nat.le_trans (List.length_filterMap_le _ _) (both_len a b)
theorem cgo_map {f : Bs → Option Ch} : ∀ {q : Option Bs} {l : List Bs}, asc q l = true → (∀ p ∈ l, ∀ c, f p = some c → c.path = p ∧ can p = true ∧ c.text.length ≤ 65536 ∧ (c.gone = true → c.text = [])) → cgo q (l.filterMap f) = true
  | _, [], _, _ => rfl
  | q, p :: l, h, hf => by
    simp only [asc, Bool.and_eq_true] at h
    have ih := cgo_map h.2 fun x hx => hf x (by simp [hx])
    rw [List.filterMap_cons]
    split
    · refine cgo_weak ih fun c hc => ?_
      obtain ⟨x, hx, hfx⟩ := List.mem_filterMap.1 hc
      rw [(hf x (by simp [hx]) c hfx).1]
      exact above_trans h.1 (asc_above h.2 x hx)
    · next c hc =>
      obtain ⟨h1, h2, h3, h4⟩ := hf p (by simp) c hc
      refine cgo_of (by rw [h1]; exact h2) h3 h4 (by rw [h1]; exact h.1) (by rw [h1]; exact ih)
theorem betw_go {a b : List Fl} (ha : go none a = true) (hb : go none b = true) : cgo none (betw a b) = true :=
  cgo_map (asc_both a b) fun p hp c hc => by
    obtain ⟨_, rfl⟩ := chOf_some hc
    refine ⟨rfl, can_both ha hb hp, get_short hb p, fun hg => ?_⟩
    have : (get b p).2 = false := by simpa using hg
    rw [get_empty this]
/-- P12.4: what is between, played, is the other one -/
theorem betw_play {a b : List Fl} (ha : go none a = true) (hb : go none b = true) (hn : 2 * a.length + b.length ≤ 1000) : play a (betw a b) = b := by
  have hl := betw_len a b
  obtain ⟨a1, _, a3⟩ := play_any (betw_go ha hb) ha (by omega)
  refine go_ext a1 hb fun f => ?_
  rw [a3]
  constructor
  · rintro (⟨c, hc, hg, rfl⟩ | ⟨hf, hno⟩)
    · obtain ⟨hp, h⟩ := mem_betw.1 hc
      obtain ⟨_, e⟩ := chOf_some h
      have hg2 : (get b c.path).2 = true := by rw [e] at hg; simpa using hg
      obtain ⟨g, hgm, e1, e2⟩ := get_some hg2
      have e3 : c.text = (get b c.path).1 := congrArg Ch.text e
      rw [e3, e2, ← e1]
      exact hgm
    · have hin : f.path ∈ both a b := mem_both.2 (.inl ⟨f, hf, rfl⟩)
      have hget := get_is ha hf
      by_cases he : get a f.path = get b f.path
      · rw [hget] at he
        obtain ⟨g, hgm, e1, e2⟩ := get_some (t := b) (p := f.path) (by rw [← he])
        rw [← he] at e2
        obtain ⟨q, y⟩ := f
        obtain ⟨q', y'⟩ := g
        simp only at e1 e2
        subst e1 e2
        exact hgm
      · exact absurd rfl (hno ⟨f.path, !(get b f.path).2, (get b f.path).1⟩ (mem_betw.2 ⟨hin, if_neg he⟩))
  · intro hf
    have hin : f.path ∈ both a b := mem_both.2 (.inr ⟨f, hf, rfl⟩)
    have hget := get_is hb hf
    by_cases he : get a f.path = get b f.path
    · right
      rw [hget] at he
      obtain ⟨g, hgm, e1, e2⟩ := get_some (t := a) (p := f.path) (by rw [he])
      rw [he] at e2
      obtain ⟨q, y⟩ := f
      obtain ⟨q', y'⟩ := g
      simp only at e1 e2
      subst e1 e2
      refine ⟨hgm, fun c hc e => ?_⟩
      obtain ⟨_, h⟩ := mem_betw.1 hc
      obtain ⟨hne, _⟩ := chOf_some h
      rw [← e] at hne
      exact hne (he.trans hget.symm)
    · left
      refine ⟨⟨f.path, !(get b f.path).2, (get b f.path).1⟩, mem_betw.2 ⟨hin, if_neg he⟩, ?_, ?_⟩
      · rw [hget]; rfl
      · rw [hget]
theorem betw_none {a b : List Fl} (ha : go none a = true) (hb : go none b = true) : betw a b = [] ↔ a = b := by
  constructor
  · intro h
    refine go_ext ha hb fun f => ?_
    have key : ∀ p ∈ both a b, get a p = get b p := fun p hp => by
      by_cases he : get a p = get b p
      · exact he
      · have : (⟨p, !(get b p).2, (get b p).1⟩ : Ch) ∈ betw a b := mem_betw.2 ⟨hp, if_neg he⟩
        rw [h] at this
        cases this
    have same : ∀ {x y : List Fl}, go none x = true → (∀ p, get x p = get y p ∨ p ∉ both a b) → (∀ g ∈ x, g.path ∈ both a b) → f ∈ x → f ∈ y := fun {x y} hx hxy hin hf => by
      have e := (hxy f.path).resolve_right fun hn => hn (hin f hf)
      rw [get_is hx hf] at e
      obtain ⟨g, hgm, e1, e2⟩ := get_some (t := y) (p := f.path) (by rw [← e])
      rw [← e] at e2
      obtain ⟨q, z⟩ := f
      obtain ⟨q', z'⟩ := g
      simp only at e1 e2
      subst e1 e2
      exact hgm
    refine ⟨fun hf => same ha (fun p => ?_) (fun g hg => mem_both.2 (.inl ⟨g, hg, rfl⟩)) hf, fun hf => same hb (fun p => ?_) (fun g hg => mem_both.2 (.inr ⟨g, hg, rfl⟩)) hf⟩
    · by_cases hp : p ∈ both a b
      · exact .inl (key p hp)
      · exact .inr hp
    · by_cases hp : p ∈ both a b
      · exact .inl (key p hp).symm
      · exact .inr hp
  · rintro rfl
    unfold betw
    rw [List.filterMap_eq_nil_iff]
    intro p _
    exact if_pos rfl
end Go.Proofs.YtabgkfkjnpcbkaaDoor.Tr
namespace Go.Proofs.YtabgkfkjnpcbkaaDoor.Tr
open Go Wr

theorem form_len {n : Nat} (h : n < 18446744073709551616) : (form n).length ≤ 10 := by
  have := form_short n 10 (by omega) (by omega)
  omega
theorem txt_len {s : Bs} (h : s.length < 18446744073709551616) : (txt s).length ≤ s.length + 10 := by
  have := form_len h
  unfold txt
  rw [List.length_append]; omega
theorem ids_flen : ∀ (l : List Bs), (∀ x ∈ l, x.length = 32) → (l.flatMap txt).length ≤ 42 * l.length
  | [], _ => by simp
  | x :: l, h => by
    have h1 := h x (by simp)
    have h2 := txt_len (s := x) (by omega)
    have ih := ids_flen l fun y hy => h y (by simp [hy])
    rw [List.flatMap_cons, List.length_append, List.length_cons]; omega
theorem fCh_len {c : Ch} (h : c.path.length < 18446744073709551616) (h' : c.text.length < 18446744073709551616) : (fCh c).length ≤ c.path.length + c.text.length + 30 := by
  have h1 := txt_len h
  have h2 := txt_len h'
  have h3 := form_len (n := if c.gone then 1 else 0) (by split <;> omega)
  unfold fCh
  rw [List.length_append, List.length_append]; omega
/-- how many bytes changes have -/
def weigh (l : List Ch) : Nat := (l.map fun c => c.path.length + c.text.length).sum
theorem chs_flen : ∀ (l : List Ch), (∀ c ∈ l, c.path.length < 1000000 ∧ c.text.length < 1000000) → (l.flatMap fCh).length ≤ weigh l + 30 * l.length
  | [], _ => by simp
  | c :: l, h => by
    have h1 := h c (by simp)
    have h2 := fCh_len (c := c) (by omega) (by omega)
    have ih := chs_flen l fun y hy => h y (by simp [hy])
    unfold weigh at ih ⊢
    rw [List.flatMap_cons, List.length_append, List.length_cons, List.map_cons, List.sum_cons]; omega
theorem pform_len {p : Pch} (hi : ∀ x ∈ p.ids, x.length = 32) (hc : ∀ c ∈ p.chs, c.path.length < 1000000 ∧ c.text.length < 1000000) (ha : p.author.length < 1000000) (hn : p.note.length < 1000000) (h1 : p.ids.length < 1000000) (h2 : p.chs.length < 1000000) :
    (pform p).length ≤ 42 * p.ids.length + p.author.length + p.note.length + weigh p.chs + 30 * p.chs.length + 40 := by
  have a1 := form_len (n := p.ids.length) (by omega)
  have a2 := ids_flen p.ids hi
  have a3 := txt_len (s := p.author) (by omega)
  have a4 := txt_len (s := p.note) (by omega)
  have a5 := form_len (n := p.chs.length) (by omega)
  have a6 := chs_flen p.chs hc
  unfold pform
  simp only [List.length_append]
  omega
/-- a name, for the limits -/
def limId (i : Nat) : Bs := List.replicate 31 0 ++ [UInt8.ofNat i]
def limIds (n : Nat) : List Bs := (List.range n).map limId
def lim (n k m : Nat) : Pch := ⟨limIds n, List.replicate k 0, List.replicate m 0, []⟩
theorem limIds_snoc (n : Nat) : limIds (n + 1) = limIds n ++ [limId n] := by
  unfold limIds
  rw [List.range_succ, List.map_append]; rfl
theorem limIds_len (n : Nat) : (limIds n).length = n := by simp [limIds]
theorem limIds_go : ∀ n, n ≤ 20 → igo none (limIds n) = true := by decide +kernel
theorem lim_right {n k m : Nat} (hn : n ≤ 20) (hk : k ≤ 105) (hm : m ≤ 1005) : pright (lim n k m) = (decide (n ≤ 16) && decide (k ≤ 100) && decide (m ≤ 1000)) := by
  have hl := pform_len (p := lim n k m) (igo_len (limIds_go n hn)) (fun c hc => by cases hc) (by simp [lim]; omega) (by simp [lim]; omega) (by simp [lim, limIds_len]; omega) (by simp [lim])
  have hf : (pform (lim n k m)).length ≤ 131072 := by
    have e1 : (lim n k m).ids.length = n := limIds_len n
    have e2 : (lim n k m).author.length = k := List.length_replicate
    have e3 : (lim n k m).note.length = m := List.length_replicate
    have e4 : weigh (lim n k m).chs = 0 := rfl
    have e5 : (lim n k m).chs.length = 0 := rfl
    rw [e1, e2, e3, e4, e5] at hl
    omega
  unfold pright
  rw [decide_eq_true hf, show igo none (lim n k m).ids = true from limIds_go n hn, show cgo none (lim n k m).chs = true from rfl,
    show (lim n k m).ids.length = n from limIds_len n, show (lim n k m).author.length = k from List.length_replicate, show (lim n k m).note.length = m from List.length_replicate, show (lim n k m).chs.length = 0 from rfl]
  simp
theorem step_long {s r : Bs} {most : Nat} (h : most < s.length) (hl : s.length < 18446744073709551616) : (stepText (txt s ++ r) 0 most).2.2 = 4 := by
  have e : txt s ++ r = form s.length ++ (s ++ r) := by unfold txt; simp
  rw [step_ok, e]
  unfold textOf
  rw [numOf_form _ _ hl]
  simp only [ne_eq, not_true_eq_false, if_false]
  rw [if_pos (by omega)]
theorem step_bad_num {e : Nat} (he : e ≠ 0) (b : Bs) : stepNum b e = (0, b, e) := by unfold stepNum; rw [if_neg he]
theorem end_bad {e : Nat} (he : e ≠ 0) (b : Bs) : endOf b e = e := by unfold endOf; rw [if_neg he]
theorem lim_decode {n k m : Nat} (hn : n ≤ 20) (hk : k ≤ 105) (hm : m ≤ 1005) : pdecode (pform (lim n k m)) = if n ≤ 16 ∧ k ≤ 100 ∧ m ≤ 1000 then (lim n k m, 0) else (noPch, 4) := by
  have hr := lim_right hn hk hm
  by_cases h0 : n ≤ 16 ∧ k ≤ 100 ∧ m ≤ 1000
  · rw [if_pos h0]
    exact pdecode_form (by rw [hr, decide_eq_true h0.1, decide_eq_true h0.2.1, decide_eq_true h0.2.2]; rfl)
  · rw [if_neg h0]
    have e0 : stepNum (pform (lim n k m)) 0 = (n, (limIds n).flatMap txt ++ (txt (List.replicate k 0) ++ (txt (List.replicate m 0) ++ (form 0 ++ []))), 0) := by
      have := step_form (n := n) (r := (limIds n).flatMap txt ++ (txt (List.replicate k 0) ++ (txt (List.replicate m 0) ++ (form 0 ++ [])))) (by omega)
      rw [← this]
      unfold pform lim
      simp only [limIds_len]
      rfl
    unfold pdecode
    split
    · rfl
    · simp only []
      rw [e0]
      simp only []
      by_cases h1 : 16 < n
      · rw [if_pos h1]
      · rw [if_neg h1]
        have hi := ids_enc (limIds n) (txt (List.replicate k 0) ++ (txt (List.replicate m 0) ++ (form 0 ++ []))) (igo_len (limIds_go n hn))
        rw [limIds_len] at hi
        rw [hi]
        simp only []
        by_cases h2 : 100 < k
        · have ha := step_long (s := List.replicate k 0) (r := txt (List.replicate m 0) ++ (form 0 ++ [])) (most := 100) (by rw [List.length_replicate]; exact h2) (by rw [List.length_replicate]; omega)
          rw [show ((100 : Nat) : Int) = 100 from rfl] at ha
          generalize stepText (txt (List.replicate k 0) ++ (txt (List.replicate m 0) ++ (form 0 ++ []))) 0 100 = A at *
          obtain ⟨s, r, e⟩ := A
          simp only at ha
          subst ha
          have k1 : stepText r 4 1000 = ([], r, 4) := step_bad (by decide) r 1000
          have k2 : stepNum r 4 = (0, r, 4) := step_bad_num (by decide) r
          have k3 : rdChs 0 r 4 = (([], false), r, 4) := rfl
          have k4 : endOf r 4 = 4 := end_bad (by decide) r
          simp only [k1, k2, k3, k4]
          rfl
        · rw [step_txt (by rw [List.length_replicate]; omega) (by rw [List.length_replicate]; omega)]
          simp only []
          have hb := step_long (s := List.replicate m 0) (r := form 0 ++ []) (most := 1000) (by rw [List.length_replicate]; omega) (by rw [List.length_replicate]; omega)
          rw [show ((1000 : Nat) : Int) = 1000 from rfl] at hb
          generalize stepText (txt (List.replicate m 0) ++ (form 0 ++ [])) 0 1000 = A at *
          obtain ⟨s, r, e⟩ := A
          simp only at hb
          subst hb
          have k2 : stepNum r 4 = (0, r, 4) := step_bad_num (by decide) r
          have k3 : rdChs 0 r 4 = (([], false), r, 4) := rfl
          have k4 : endOf r 4 = 4 := end_bad (by decide) r
          simp only [k2, k3, k4]
          rfl
end Go.Proofs.YtabgkfkjnpcbkaaDoor.Tr
namespace Go.Proofs.YtabgkfkjnpcbkaaDoor.Tr
open Go Go.RowKit Kt Lw Li Lx Df

theorem run_ne_change (f g : Ch) (w : World) : (binOp .neq tC (.agg #[.string ⟨f.path.toArray⟩, .bool f.gone, .string ⟨f.text.toArray⟩]) (.agg #[.string ⟨g.path.toArray⟩, .bool g.gone, .string ⟨g.text.toArray⟩])).run Tryd.prog w = .ok (.bool (decide (f ≠ g))) w := by
  have hu := Tryd.underlying51
  have hs := Tryd.underlying9
  have hb := Tryd.underlying4
  have c1 : Tryd.prog.cellsOf 9 = 1 := by kernel_rfl
  have c2 : Tryd.prog.cellsOf 4 = 1 := by kernel_rfl
  rw [run_neq_struct, run_equalIn_struct _ _ _ _ _ (by unfold Program.fieldsOf; rw [hu]) (by kernel_rfl)]
  unfold Program.fieldsOf
  rw [hu]
  simp [go_sem, Op.eqFields, hs, hb]
  obtain ⟨p, m, x⟩ := f
  obtain ⟨q, n, y⟩ := g
  by_cases h1 : p = q
  · by_cases h2 : x = y
    · by_cases h3 : m = n <;> simp [h1, h2, h3]
    · by_cases h3 : m = n <;> simp [h1, h2, h3]
  · simp [h1]
set_option maxRecDepth 100000 in
set_option maxHeartbeats 2000000 in
theorem changes_any (t u : List Ch) (A A' : Option Addr) (c c' : Nat) (w : World) (hs : Chs w A c t) (hs' : Chs w A' c' u) (hn : t.length ≤ 1000000) :
    Calls Tryd.prog 27 #[.slice A t.length c, .slice A' u.length c'] w fun y w' => y = .returned (.bool (decide (t = u))) ∧ Below w.heap.size w w' := by
  by_cases hlen : t.length = u.length
  · have Hs := hide hs
    have Hs' := hide hs'
    obtain ⟨N, hN⟩ : ∃ N, N = t.length := ⟨_, rfl⟩
    have hN' : N = u.length := by omega
    rw [← hlen, ← hN]
    rw [← hN] at hn
    have HN := hide hN
    have HN' := hide hN'
    clear hs hs' hN hN' hlen
    go_enter Tryd.func27, Tryd.ntmps27
    go_wp2
    go_loopw [5] (fun i wr => ∃ k : Nat, k ≤ N ∧ i = .int .i64 k ∧ Hid (decide (t = u) = decide (t.drop k = u.drop k)) ∧ Below w.heap.size w wr) (fun i _ => N - (intOf i).toNat)
    case atStart => exact ⟨0, Nat.zero_le _, rfl, by show Hid _; exact hide rfl, Below.refl _ _⟩
    case round =>
      obtain ⟨k, hk, rfl, HR, hb⟩ := hrel
      have Hb := hide hb
      clear hb
      by_cases hlt : k < N
      · obtain ⟨b, o, f, rfl, hbl, hf, hd, d0, dm, d1⟩ := Hs.out.at (w' := wr) Hb.out (k := k) (by have := HN.out; omega)
        obtain ⟨b', o', g, rfl, hbl', hg, hd', e0, em, e1⟩ := Hs'.out.at (w' := wr) Hb.out (k := k) (by have := HN'.out; omega)
        have hr := HR.out
        rw [hd, hd'] at hr
        have hne := fun w => run_ne_change f g w
        obtain ⟨x, hx⟩ : ∃ x, x = f.text := ⟨_, rfl⟩
        obtain ⟨p, hp⟩ : ∃ p, p = f.path := ⟨_, rfl⟩
        obtain ⟨m, hm⟩ : ∃ m, m = f.gone := ⟨_, rfl⟩
        obtain ⟨n, hn'⟩ : ∃ n, n = g.gone := ⟨_, rfl⟩
        obtain ⟨y, hy⟩ : ∃ y, y = g.text := ⟨_, rfl⟩
        obtain ⟨q, hq⟩ : ∃ q, q = g.path := ⟨_, rfl⟩
        rw [← hx] at d1
        rw [← hm] at dm
        rw [← hn'] at em
        rw [← hp] at d0
        rw [← hy] at e1
        rw [← hq] at e0
        rw [← hx, ← hp, ← hy, ← hq, ← hm, ← hn'] at hne
        clear hx hp hy hq hm hn' hf hg hd hd' HR hbl hbl'
        by_cases he : f = g
        · rw [decide_eq_false (show ¬ f ≠ g from fun h => h he)] at hne
          have Hr := hide (show decide (t = u) = decide (t.drop (k + 1) = u.drop (k + 1)) by rw [hr, he]; simp)
          clear hr he
          go_wp2
          go_quiet (fail)
          go_wp2
          exact ⟨⟨k + 1, by omega, by go_num, by show Hid _; exact hide Hr.out, below_drewN Hb.out _⟩, by simp [intOf]; omega⟩
        · rw [decide_eq_true (show f ≠ g from he)] at hne
          have Hr := hide (show decide (t = u) = false by rw [hr, decide_eq_false_iff_not]; intro h; exact he (List.cons.inj h).1)
          clear hr he
          go_wp2
          go_quiet (fail)
          go_wp2
          go_ret
          exact ⟨by rw [Hr.out]; rfl, below_drewN Hb.out _⟩
      · obtain rfl : k = N := by omega
        have Hr := hide (show decide (t = u) = true by
          rw [HR.out, decide_eq_true_iff, List.drop_of_length_le (by have := HN.out; omega), List.drop_of_length_le (by have := HN'.out; omega)])
        clear HR
        go_wp2
        go_ret
        exact ⟨by rw [Hr.out]; rfl, Hb.out⟩
  · have Hr := hide (show decide (t = u) = false from decide_eq_false fun h => hlen (by rw [h]))
    obtain ⟨N, hN⟩ : ∃ N, N = t.length := ⟨_, rfl⟩
    obtain ⟨M, hM⟩ : ∃ N, N = u.length := ⟨_, rfl⟩
    rw [← hN, ← hM] at hlen ⊢
    have d1 : ((N : Int) != (M : Int)) = true := by rw [bne_iff_ne]; omega
    have d2 : (N != M) = true := by rw [bne_iff_ne]; exact hlen
    clear hs hs' hn hN hM
    go_enter Tryd.func27, Tryd.ntmps27
    go_wp2
    go_ret
    exact ⟨by rw [Hr.out]; rfl, Below.refl _ _⟩
set_option maxHeartbeats 1000000 in
set_option maxRecDepth 100000 in
theorem ids_any (l r : List (List UInt8)) (A A' : Option Addr) (c c' : Nat) (P P' : Nat → Prop) (w : World) (hs : Vs w P A c (texts l)) (hs' : Vs w P' A' c' (texts r)) (hl : l.length ≤ 9223372036854775807) :
    Calls Tryd.prog 44 #[.slice A l.length c, .slice A' r.length c'] w fun y w' => y = .returned (.bool (decide (l = r))) ∧ Below w.heap.size w w' := by
  by_cases hlen : l.length = r.length
  · have Hs := hide hs.bound
    have Hs' := hide hs'.bound
    clear hs hs'
    have hb0 : ((l.length : Int) != (r.length : Int)) = false := by rw [bne_eq_false_iff_eq]; omega
    have Hlen := hide hlen
    obtain ⟨N, hN⟩ : ∃ N, N = l.length := ⟨_, rfl⟩
    obtain ⟨N', hN'⟩ : ∃ N', N' = r.length := ⟨_, rfl⟩
    rw [← hN, ← hN'] at hb0 ⊢
    have HN := hide hN
    have HN' := hide hN'
    have hNl : N ≤ 9223372036854775807 := by omega
    have hNN : N = N' := by omega
    have HNN := hide hNN
    clear hN hN' hl hlen hNN
    go_enter Tryd.func44, Tryd.ntmps44
    go_wp2
    go_loopw [5] (fun i wr => ∃ k : Nat, k ≤ N ∧ i = .int .i64 k ∧ (∀ j, j < k → l.getD j [] = r.getD j []) ∧ Below w.heap.size w wr) (fun i _ => N - (intOf i).toNat)
    case atStart => exact ⟨0, Nat.zero_le _, rfl, fun j h => absurd h (Nat.not_lt_zero _), Below.refl _ _⟩
    case round =>
      obtain ⟨k, hk, rfl, hall, hb⟩ := hrel
      have Hall := hide hall
      have Hb := hide hb
      clear hall hb
      by_cases hlt : k < N
      · obtain ⟨b, o, rfl, ck⟩ := Hs.out.text Hb.out (k := k) (by have := HN.out; omega)
        obtain ⟨b', o', rfl, ck'⟩ := Hs'.out.text Hb.out (k := k) (by have := HN'.out; have := HNN.out; omega)
        have hlt' : k < N' := by have := HNN.out; omega
        by_cases hx : l.getD k [] = r.getD k []
        · have Hx := hide hx
          rw [hx] at ck
          clear hx
          generalize (r.getD k []).toArray = x at *
          go_wp2
          go_quiet (fail)
          go_wp2
          refine ⟨⟨k + 1, by omega, by go_num, fun j hj => ?_, below_drewN Hb.out _⟩, by simp [intOf]; omega⟩
          rcases Nat.lt_or_ge j k with hj' | hj'
          · exact Hall.out j hj'
          · obtain rfl : j = k := by omega
            exact Hx.out
        · have hxn := eq_txt (l.getD k []) (r.getD k [])
          rw [decide_eq_false hx] at hxn
          have Hx := hide hx
          clear hx
          generalize (r.getD k []).toArray = x at *
          generalize (l.getD k []).toArray = y at *
          go_wp2
          go_quiet (fail)
          go_wp2
          go_ret
          refine ⟨?_, below_drewN Hb.out _⟩
          have hd : decide (l = r) = false := decide_eq_false fun h => Hx.out (by rw [h])
          rw [hd]; rfl
      · obtain rfl : k = N := by omega
        go_wp2
        go_ret
        refine ⟨?_, Hb.out⟩
        have hd : decide (l = r) = true := decide_eq_true (texts_same l r Hlen.out fun j hj => Hall.out j (by have := HN.out; omega))
        rw [hd]; rfl
  · have hb0 : ((l.length : Int) != (r.length : Int)) = true := by rw [bne_iff_ne]; omega
    have Hd := hide (show decide (l = r) = false from decide_eq_false fun h => hlen (by rw [h]))
    clear hs hs' hlen
    go_enter Tryd.func44, Tryd.ntmps44
    go_wp2
    go_ret
    exact ⟨by rw [Hd.out]; rfl, Below.refl _ _⟩

set_option maxRecDepth 100000 in
set_option maxHeartbeats 2000000 in
theorem psame_any (p q : Pch) (Ai Ac Bi Bc : Option Addr) (ci cc di dc : Nat) (P P' : Nat → Prop) (w : World) (h1 : Vs w P Ai ci (texts p.ids)) (h2 : Chs w Ac cc p.chs) (h3 : Vs w P' Bi di (texts q.ids)) (h4 : Chs w Bc dc q.chs)
    (l1 : p.ids.length ≤ 1000000) (l2 : p.chs.length ≤ 1000000) :
    Calls Tryd.prog 21 #[PchV p Ai Ac ci cc, PchV q Bi Bc di dc] w fun y w' => y = .returned (.bool (decide (p = q))) ∧ Below w.heap.size w w' := by
  obtain ⟨i, a, o, c⟩ := p
  obtain ⟨j, b, u, d⟩ := q
  simp only at h1 h2 h3 h4 l1 l2
  have HI := hide (fun (wz : World) (hb : Below w.heap.size w wz) => ids_any i j Ai Bi ci di _ _ wz (Lw.Vs.below h1 hb) (Lw.Vs.below h3 hb) (by omega))
  have HC := hide (fun (wz : World) (hb : Below w.heap.size w wz) => changes_any c d Ac Bc cc dc wz (h2.keep hb) (h4.keep hb) l2)
  unfold PchV
  simp only
  obtain ⟨ni, hni⟩ : ∃ n, n = i.length := ⟨_, rfl⟩
  obtain ⟨nj, hnj⟩ : ∃ n, n = j.length := ⟨_, rfl⟩
  obtain ⟨nc, hnc⟩ : ∃ n, n = c.length := ⟨_, rfl⟩
  obtain ⟨nd, hnd⟩ : ∃ n, n = d.length := ⟨_, rfl⟩
  rw [← hni, ← hnj] at HI ⊢
  rw [← hnc, ← hnd] at HC ⊢
  clear h1 h2 h3 h4 l1 l2 hni hnj hnc hnd
  obtain ⟨s, hs⟩ : ∃ s, s = w.heap.size := ⟨_, rfl⟩
  obtain ⟨w2, hw2⟩ : ∃ w2, w2 = (w.alloc (.cells #[.slice Ai ni ci, .string ⟨a.toArray⟩, .string ⟨o.toArray⟩, .slice Ac nc cc] 25)).alloc (.cells #[.slice Bi nj di, .string ⟨b.toArray⟩, .string ⟨u.toArray⟩, .slice Bc nd dc] 25) := ⟨_, rfl⟩
  have r1 : Row w2 s 25 [.slice Ai ni ci, .string ⟨a.toArray⟩, .string ⟨o.toArray⟩, .slice Ac nc cc] := by rw [hw2, hs]; exact (Row.fresh w _ _).alloc _
  have r2 : Row w2 (s + 1) 25 [.slice Bi nj di, .string ⟨b.toArray⟩, .string ⟨u.toArray⟩, .slice Bc nd dc] := by rw [hw2, hs]; exact Row.new _ _ (by simp) rfl
  have b2 : Below w.heap.size w w2 := by rw [hw2]; exact ((Below.refl _ w).alloc (Nat.le_refl _) _).alloc (by simp) _
  have k0 := r1.cell 0
  have m0 := r2.cell 0
  simp only [List.getElem?_cons_zero] at k0 m0
  have R1 := hide r1
  have R2 := hide r2
  have B2 := hide b2
  have HW2 := hide hw2
  have HS := hide hs
  clear r1 r2 b2 hw2 hs
  go_enter Tryd.func21, Tryd.ntmps21
  go_wp2_with (first | rw [← HW2.out, ← HS.out] | fail)
  refine (HI.out w2 B2.out).mono ?_
  rintro y w3 ⟨rfl, hb3⟩
  have r1 := R1.out.below hb3 R1.out.lt
  have r2 := R2.out.below hb3 R2.out.lt
  have B3 := hide (B2.out.trans (hb3.mono B2.out.size))
  have e1 := r1.cell 1
  have e2 := r1.cell 2
  have e3 := r1.cell 3
  have f1 := r2.cell 1
  have f2 := r2.cell 2
  have f3 := r2.cell 3
  simp only [List.getElem?_cons_zero, List.getElem?_cons_succ] at e1 e2 e3 f1 f2 f3
  clear r1 r2 R1 R2 B2 hb3 HI k0 m0
  by_cases hi : i = j
  · rw [decide_eq_true hi]
    by_cases ha : a = b
    · have ha' : (a == b) = true := by simpa using ha
      by_cases ho : o = u
      · have ho' : (o == u) = true := by simpa using ho
        have Hr := hide (show decide ((⟨i, a, o, c⟩ : Pch) = ⟨j, b, u, d⟩) = decide (c = d) by rw [hi, ha, ho]; simp)
        clear hi ha ho
        go_wp2_with fail
        refine (HC.out w3 B3.out).mono ?_
        rintro y w4 ⟨rfl, hb4⟩
        have B4 := hide (B3.out.trans (hb4.mono B3.out.size))
        clear hb4
        go_wp2
        go_ret
        exact ⟨by rw [Hr.out]; rfl, B4.out⟩
      · have ho' : (o == u) = false := by simpa using ho
        have Hr := hide (show decide ((⟨i, a, o, c⟩ : Pch) = ⟨j, b, u, d⟩) = false from decide_eq_false fun h => ho (congrArg Pch.note h))
        clear hi ha ho HC
        go_wp2
        go_ret
        exact ⟨by rw [Hr.out]; rfl, B3.out⟩
    · have ha' : (a == b) = false := by simpa using ha
      have Hr := hide (show decide ((⟨i, a, o, c⟩ : Pch) = ⟨j, b, u, d⟩) = false from decide_eq_false fun h => ha (congrArg Pch.author h))
      clear hi ha HC
      go_wp2
      go_ret
      exact ⟨by rw [Hr.out]; rfl, B3.out⟩
  · rw [decide_eq_false hi]
    have Hr := hide (show decide ((⟨i, a, o, c⟩ : Pch) = ⟨j, b, u, d⟩) = false from decide_eq_false fun h => hi (congrArg Pch.ids h))
    clear hi HC
    go_wp2
    go_ret
    exact ⟨by rw [Hr.out]; rfl, B3.out⟩
end Go.Proofs.YtabgkfkjnpcbkaaDoor.Tr
