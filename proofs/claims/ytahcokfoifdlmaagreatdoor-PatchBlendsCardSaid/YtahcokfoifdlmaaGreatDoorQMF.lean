/-
  What tells a clash's lines, with marks: the third closure of merge.tellers.
-/
import Derived.Test.YtahcokfoifdlmaaGreatDoorQLC
import Derived.BigQuiet
import Derived.Test.YtahcokfoifdlmaaGreatDoorJK
import Derived.Test.YtahcokfoifdlmaaGreatDoorQKR
import Derived.Test.YtahcokfoifdlmaaGreatDoorQJH
import Derived.Test.YtahcokfoifdlmaaGreatDoorQRS
import Derived.Test.YtahcokfoifdlmaaGreatDoorQWI
import Derived.MapKept
import Derived.RangeFuncRecord
import Derived.Carry
import Derived.Test.YtahcokfoifdlmaaGreatDoorLA
import Derived.Test.YtahcokfoifdlmaaGreatDoorQNA
namespace Go.Proofs.YtahcokfoifdlmaaGreatDoor.Al
open Go Go.RowKit Kt Lw Li Df

/-- what a clash's lines are told of -/
structure Cx where
  o : Ls
  a : Ls
  b : Ls
  Ao : Option Addr
  Aa : Option Addr
  Ab : Option Addr
  no : Nat
  na : Nat
  nb : Nat
  co : Nat
  ca : Nat
  cb : Nat
  x0 : Nat
  m0 : Nat
  x1 : Nat
  m1 : Nat
  x2 : Nat
  m2 : Nat
  q : Nat
  B : Nat
def Cx.parts (X : Cx) : List Ls := [[mk7 60], (cut X.a X.x1 X.m1).map shut, [mk7 124], (cut X.o X.x0 X.m0).map shut, [mk7 61], (cut X.b X.x2 X.m2).map shut, [mk7 62]]
theorem Cx.flat (X : Cx) : X.parts.flatten = mgX (cut X.o X.x0 X.m0) (cut X.a X.x1 X.m1) (cut X.b X.x2 X.m2) := by
  simp [Cx.parts, mgX]
/-- what holds of an operation's value once it is done -/
def Phi (X : Cx) : Nat → Value → World → Prop
  | 0, v, w => IsT w v [mk7 60]
  | 1, v, _ => v = .slice X.Aa X.na X.ca
  | 2, v, _ => v = .pointer (some ⟨X.q, 3, none⟩)
  | 3, v, _ => v = .agg #[.int .i64 X.x1, .int .i64 X.m1]
  | 4, v, w => IsT w v (cut X.a X.x1 X.m1)
  | 5, v, w => IsT w v ((cut X.a X.x1 X.m1).map shut)
  | 6, v, w => IsT w v [mk7 124]
  | 7, v, _ => v = .slice X.Ao X.no X.co
  | 8, v, _ => v = .pointer (some ⟨X.q, 1, none⟩)
  | 9, v, _ => v = .agg #[.int .i64 X.x0, .int .i64 X.m0]
  | 10, v, w => IsT w v (cut X.o X.x0 X.m0)
  | 11, v, w => IsT w v ((cut X.o X.x0 X.m0).map shut)
  | 12, v, w => IsT w v [mk7 61]
  | 13, v, _ => v = .slice X.Ab X.nb X.cb
  | 14, v, _ => v = .pointer (some ⟨X.q, 5, none⟩)
  | 15, v, _ => v = .agg #[.int .i64 X.x2, .int .i64 X.m2]
  | 16, v, w => IsT w v (cut X.b X.x2 X.m2)
  | 17, v, w => IsT w v ((cut X.b X.x2 X.m2).map shut)
  | 18, v, w => IsT w v [mk7 62]
  | 19, v, w => ∃ g vs, v = .slice (some ⟨g, 0, none⟩) 7 7 ∧ Row w g 34 vs ∧ vs.length = 7 ∧ ∀ k, k < 7 → IsT w (vs.getD k (.bool false)) (X.parts.getD k [])
  | 20, v, w => ∃ n c, v = .slice n X.parts.flatten.length c ∧ OwT w X.B 9 v X.parts.flatten
  | _, _, _ => True
theorem Phi.keep {X : Cx} {k : Nat} {v : Value} {w w' : World} (h : Phi X k v w) (hb : Below w.heap.size w w') : Phi X k v w' := by
  unfold Phi at h ⊢
  split at h <;> first | exact h | exact h.below hb | skip
  · obtain ⟨g, vs, e, hr, hl, hi⟩ := h
    exact ⟨g, vs, e, hr.below hb hr.lt, hl, fun k hk => (hi k hk).below hb⟩
  · obtain ⟨n, c, e, ho⟩ := h
    exact ⟨n, c, e, ho.kept hb⟩
def upd (v : Nat → Value) (k : Nat) (x : Value) : Nat → Value := fun j => if j = k then x else v j
theorem upd_same (v : Nat → Value) (k : Nat) (x : Value) : upd v k x k = x := if_pos rfl
theorem upd_other (v : Nat → Value) (k : Nat) (x : Value) (j : Nat) (h : j ≠ k) : upd v k x j = v j := if_neg h
/-- what holds of all that is done so far -/
structure Dn3 (X : Cx) (w1 : World) (listed : Array Bool) (v : Nat → Value) (x5 : Value) (w : World) : Prop where
  low : Below w1.heap.size w1 w
  phi : ∀ k, k < 21 → listed.getD k false = true → Phi X k (v (k + 6)) w
  fin : listed.getD 21 false = true → ∃ n c, x5 = .slice n X.parts.flatten.length c ∧ OwT w X.B 9 x5 X.parts.flatten
theorem Dn3.step {X : Cx} {w1 : World} {listed : Array Bool} {v : Nat → Value} {x5 : Value} {w : World} (h : Dn3 X w1 listed v x5 w) (k : Nat) (hk : k < 21) {nv : Value} {w' : World} (hb : Below w.heap.size w w') (hn : Phi X k nv w') :
    Dn3 X w1 (listed.setIfInBounds k true) (upd v (k + 6) nv) x5 w' := by
  refine ⟨h.low.trans (hb.mono h.low.size), fun j hj hl => ?_, fun hl => ?_⟩
  · by_cases e : j = k
    · subst e; rw [upd_same]; exact hn
    · rw [upd_other _ _ _ _ (by omega)]
      rw [getD_set_ne false (fun h => e h.symm)] at hl
      exact (h.phi j hj hl).keep hb
  · rw [getD_set_ne false (by omega)] at hl
    obtain ⟨n, c, e, ho⟩ := h.fin hl
    exact ⟨n, c, e, ho.kept hb⟩
theorem Dn3.last {X : Cx} {w1 : World} {listed : Array Bool} {v : Nat → Value} {x5 : Value} {w : World} (h : Dn3 X w1 listed v x5 w) {nv : Value} (hn : ∃ n c, nv = .slice n X.parts.flatten.length c ∧ OwT w X.B 9 nv X.parts.flatten) :
    Dn3 X w1 (listed.setIfInBounds 21 true) v nv w :=
  ⟨h.low, fun j hj hl => h.phi j hj (by rw [getD_set_ne false (by omega)] at hl; exact hl), fun _ => hn⟩
theorem IsT.of {w : World} {P : Nat → Prop} {A : Option Addr} {c n : Nat} {l : Ls} (h : Vs w P A c (texts l)) (hn : l.length = n) : IsT w (.slice A n c) l :=
  ⟨A, c, by rw [hn], h.1, fun hp => by
    obtain ⟨b, o, e, _, hc⟩ := h.2 hp
    exact ⟨b, o, e, trivial, hc⟩⟩
end Go.Proofs.YtahcokfoifdlmaaGreatDoor.Al
namespace Go.Proofs.YtahcokfoifdlmaaGreatDoor.Al
open Go Go.RowKit Kt Lw Li Df

def te1 (ga : Nat) : Value := .func (.func 96) #[] #[.pointer (some ⟨ga, 0, none⟩)]
def te2 (gb : Nat) : Value := .func (.func 98) #[] #[.pointer (some ⟨gb, 0, none⟩)]
def te3 (go ga gb : Nat) : Value := .func (.func 99) #[] #[.pointer (some ⟨ga, 0, none⟩), .pointer (some ⟨go, 0, none⟩), .pointer (some ⟨gb, 0, none⟩)]
def teE (go ga gb : Nat) : Array MapEntry := #[⟨.int .i64 0, te1 ga, 0⟩, ⟨.int .i64 1, te1 ga, 1⟩, ⟨.int .i64 2, te2 gb, 2⟩, ⟨.int .i64 3, te1 ga, 3⟩, ⟨.int .i64 4, te3 go ga gb, 4⟩]
/-- what tells the lines is there -/
structure Tel (w : World) (B g go ga gb : Nat) (Ao Aa Ab : Option Addr) (no na nb co ca cb : Nat) : Prop where
  map : w.heap[g]? = some (.map (teE go ga gb) 5)
  out : B ≤ g
  o_ : w.cell? ⟨go, 0, none⟩ = some (.slice Ao no co)
  a_ : w.cell? ⟨ga, 0, none⟩ = some (.slice Aa na ca)
  b_ : w.cell? ⟨gb, 0, none⟩ = some (.slice Ab nb cb)
theorem Tel.keep {w w' : World} {B g go ga gb : Nat} {Ao Aa Ab : Option Addr} {no na nb co ca cb : Nat} (h : Tel w B g go ga gb Ao Aa Ab no na nb co ca cb) (hb : Below w.heap.size w w') : Tel w' B g go ga gb Ao Aa Ab no na nb co ca cb :=
  ⟨(hb.block g (Array.getElem?_eq_some_iff.1 h.map).1).trans h.map, h.out, agree h.o_ hb, agree h.a_ hb, agree h.b_ hb⟩
end Go.Proofs.YtahcokfoifdlmaaGreatDoor.Al
namespace Go.Proofs.YtahcokfoifdlmaaGreatDoor.Al
open Go Go.RowKit Kt Kg Lw Li Df

theorem Trio.keep {w w' : World} {Ao Aa Ab : Option Addr} {co ca cb : Nat} {o a b : Ls} (h : Trio w Ao Aa Ab co ca cb o a b) (hb : Below w.heap.size w w') : Trio w' Ao Aa Ab co ca cb o a b :=
  ⟨(Lw.Vs.below h.o_ hb).bound, (Lw.Vs.below h.a_ hb).bound, (Lw.Vs.below h.b_ hb).bound, h.lo_, h.la_, h.lb_⟩
end Go.Proofs.YtahcokfoifdlmaaGreatDoor.Al
namespace Go.Proofs.YtahcokfoifdlmaaGreatDoor.Al
open Go.Proofs.YtahcokfoifdlmaaGreatDoor.Li Go.Proofs.YtahcokfoifdlmaaGreatDoor.Df

/-- two sides' texts, together; how many clashes -/
def mgT (o a b : List UInt8) : List UInt8 × Nat :=
  if a = b ∨ b = o then (a, 0) else if a = o then (b, 0)
  else if binary o || binary a || binary b then (if Go.Op.bytesLess a b then b else a, 1)
  else ((mgL (lns o) (lns a) (lns b)).flatten, mgN (lns o) (lns a) (lns b))
end Go.Proofs.YtahcokfoifdlmaaGreatDoor.Al
namespace Go.Proofs.YtahcokfoifdlmaaGreatDoor.Al
open Go Go.RowKit Kt Kg Lw Li Df

theorem to_list (x : List UInt8) : (ByteArray.mk x.toArray).toList = x := by
  rw [Lib.toList_data]
theorem run_max_txt {P : Program} (w : World) (ts : Array TypeId) (ty : TypeId) (x y : List UInt8) : (Builtin.max_ ts ty #[.string ⟨x.toArray⟩, .string ⟨y.toArray⟩]).run P w = .ok (.string ⟨(if Op.bytesLess x y then y else x).toArray⟩) w := by
  unfold Builtin.max_
  simp only [List.foldlM_cons, List.foldlM_nil, Builtin.max2, Op.stringOp, to_list]
  cases Op.bytesLess x y <;> simp [asBool, Sem.run_pure]
abbrev TextQ (w : World) (y : Ending) (w' : World) (r : List UInt8 × Nat) : Prop := y = .returned (.tuple #[.string ⟨r.1.toArray⟩, .int .i64 (r.2 : Nat)]) ∧ Below w.heap.size w w'
end Go.Proofs.YtahcokfoifdlmaaGreatDoor.Al
