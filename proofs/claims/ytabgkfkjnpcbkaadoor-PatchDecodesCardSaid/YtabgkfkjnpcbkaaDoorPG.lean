/-
  Patches that are looked at; what is between two trees is a right patch's. On lists alone: no program is named here.
-/
import Derived.Test.YtabgkfkjnpcbkaaDoorQPB
import Derived.Test.YtabgkfkjnpcbkaaDoorNF
namespace Go.Proofs.YtabgkfkjnpcbkaaDoor.Tr
open Go Wr

theorem weigh_le {n : Nat} : ∀ {l : List Ch}, (∀ c ∈ l, c.path.length + c.text.length ≤ n) → weigh l ≤ n * l.length
  | [], _ => by simp [weigh]
  | c :: l, h => by
    have h1 := h c (by simp)
    have ih := weigh_le (n := n) (l := l) fun y hy => h y (by simp [hy])
    unfold weigh at ih ⊢
    rw [List.map_cons, List.sum_cons, List.length_cons, Nat.mul_succ]; omega
/-- the changes of a patch without anything else -/
abbrev only (l : List Ch) : Pch := ⟨[], [], [], l⟩
theorem betw_short {a b : List Fl} (ha : fine a = true) (hb : fine b = true) : ∀ c ∈ betw a b, c.path.length ≤ 600 ∧ c.text.length ≤ 600 := fun c hc => by
  obtain ⟨hp, h⟩ := mem_betw.1 hc
  obtain ⟨_, e⟩ := chOf_some h
  have h1 := (fine_is ha).2.2
  have h2 := (fine_is hb).2.2
  constructor
  · rcases mem_both.1 hp with ⟨f, hf, e0⟩ | ⟨f, hf, e0⟩
    · have := h1 f hf; rw [← e0]; omega
    · have := h2 f hf; rw [← e0]; omega
  · rw [congrArg Ch.text e]
    show (get b c.path).1.length ≤ 600
    cases hg : (get b c.path).2 with
    | true =>
      obtain ⟨f, hf, _, e1⟩ := get_some hg
      have := h2 f hf
      rw [e1]; omega
    | false => rw [get_empty hg]; simp
/-- P12.4: what is between two trees is a right patch's -/
theorem betw_right {a b : List Fl} (ha : fine a = true) (hb : fine b = true) : pright (only (betw a b)) = true := by
  obtain ⟨g1, l1, _⟩ := fine_is ha
  obtain ⟨g2, l2, _⟩ := fine_is hb
  have hl := betw_len a b
  have hs := betw_short ha hb
  have hw := weigh_le (n := 1200) (l := betw a b) fun c hc => by have := hs c hc; omega
  have hf := pform_len (p := only (betw a b)) (fun x hx => by cases hx) (fun c hc => by have := hs c hc; omega) (by simp) (by simp) (by simp) (by show (betw a b).length < _; omega)
  have hf2 : (pform (only (betw a b))).length ≤ 131072 := by
    have h0 : (pform (only (betw a b))).length ≤ 42 * 0 + 0 + 0 + weigh (betw a b) + 30 * (betw a b).length + 40 := hf
    omega
  unfold pright
  rw [decide_eq_true hf2, show igo none (only (betw a b)).ids = true from rfl, show cgo none (only (betw a b)).chs = true from betw_go g1 g2, decide_eq_true (show (only (betw a b)).chs.length ≤ 100 by show (betw a b).length ≤ 100; omega)]
  simp
/-- how much of a patch is looked at -/
def sumP (p : Pch) : Nat := min p.author.length 2000 + min p.note.length 2000 + ((p.ids.take 20).map fun x => min x.length 1000).sum + ((p.chs.take 20).map fun c => min c.path.length 1000 + min c.text.length 1000).sum
def fewP (p : Pch) : Bool := decide (p.ids.length ≤ 18) && decide (p.chs.length ≤ 12) && decide (sumP p ≤ 1500)
theorem fewP_is {p : Pch} (h : fewP p = true) : p.ids.length ≤ 18 ∧ p.chs.length ≤ 12 ∧ p.author.length ≤ 1500 ∧ p.note.length ≤ 1500 := by
  simp only [fewP, Bool.and_eq_true, decide_eq_true_eq] at h
  obtain ⟨⟨h1, h2⟩, h3⟩ := h
  unfold sumP at h3
  omega
theorem le_sum : ∀ {l : List Nat} {x : Nat}, x ∈ l → x ≤ l.sum
  | [], _, h => by cases h
  | y :: l, x, h => by
    rw [List.sum_cons]
    rcases List.mem_cons.1 h with rfl | h
    · omega
    · have := le_sum h; omega
/-- the changes of a patch that is looked at, if it is right, are short: each, and together -/
theorem fewP_short {p : Pch} (h : fewP p = true) : ∀ c ∈ p.chs, min c.path.length 1000 + min c.text.length 1000 ≤ 1500 := fun c hc => by
  simp only [fewP, Bool.and_eq_true, decide_eq_true_eq] at h
  obtain ⟨⟨h1, h2⟩, h3⟩ := h
  unfold sumP at h3
  rw [List.take_of_length_le (l := p.chs) (by omega)] at h3
  have : min c.path.length 1000 + min c.text.length 1000 ∈ p.chs.map fun c => min c.path.length 1000 + min c.text.length 1000 := List.mem_map.2 ⟨c, hc, rfl⟩
  have := le_sum this
  omega
end Go.Proofs.YtabgkfkjnpcbkaaDoor.Tr
