/-
  Texts: what of a slice is read in a world behind; == and + of texts; the reference's Texts.
-/
import Derived.Test.YtnehgogajghefaaDoorProg
import Derived.Test.YtnehgogajghefaaDoorQ2
import Derived.IntWalk
import Derived.Lib.Strings
namespace Go.Proofs.YtnehgogajghefaaDoor.Lw
open Go Go.RowKit Kt
theorem Vs.bound {w : World} {P : Nat → Prop} {A : Option Addr} {c : Nat} {vs : List Value} (h : Vs w P A c vs) : Vs w (fun b => b < w.heap.size) A c vs :=
  ⟨h.1, fun hn => by
    obtain ⟨b, o, rfl, hp, hc⟩ := h.2 hn
    obtain ⟨v, hv⟩ : ∃ v, vs[0]? = some v := ⟨vs[0], List.getElem?_eq_getElem hn⟩
    exact ⟨b, o, rfl, World.block_lt_of_cell? w ⟨b, o + 0, none⟩ (hc 0 v hv), hc⟩⟩
/-- the cell of text k, in a world behind -/
theorem Vs.text {w w' : World} {A : Option Addr} {c : Nat} {l : List (List UInt8)} (h : Vs w (fun b => b < w.heap.size) A c (texts l)) (hb : Below w.heap.size w w') {k : Nat} (hk : k < l.length) :
    ∃ b o, A = some ⟨b, o, none⟩ ∧ w'.cell? ⟨b, o + k, none⟩ = some (.string ⟨(l.getD k []).toArray⟩) := by
  obtain ⟨b, o, rfl, hp, hc⟩ := h.2 (by rw [texts_len]; omega)
  exact ⟨b, o, rfl, (World.cell?_of_block (a := ⟨b, o + k, none⟩) (hb.block b hp)).trans (hc k _ (texts_at l k hk))⟩
end Go.Proofs.YtnehgogajghefaaDoor.Lw
namespace Go.Proofs.YtnehgogajghefaaDoor.Li
open Go Go.RowKit Kt Lw

theorem texts_same (l r : List (List UInt8)) (hl : l.length = r.length) (h : ∀ j, j < l.length → l.getD j [] = r.getD j []) : l = r := by
  apply List.ext_getElem hl
  intro i h1 h2
  have := h i h1
  simpa [List.getElem?_eq_getElem h1, List.getElem?_eq_getElem h2] using this
theorem eq_txt (x y : List UInt8) : ((ByteArray.mk x.toArray).toList == (ByteArray.mk y.toArray).toList) = decide (x = y) := by
  rw [Lib.toList_data, Lib.toList_data, Bool.eq_iff_iff, beq_iff_eq, decide_eq_true_iff]
set_option maxHeartbeats 1000000 in
set_option maxRecDepth 100000 in
theorem texts_any (l r : List (List UInt8)) (A A' : Option Addr) (c c' : Nat) (P P' : Nat → Prop) (w : World) (hs : Vs w P A c (texts l)) (hs' : Vs w P' A' c' (texts r)) (hl : l.length ≤ 9223372036854775807) :
    Calls Tryd.prog 28 #[.slice A l.length c, .slice A' r.length c'] w fun y w' => y = .returned (.bool (decide (l = r))) ∧ Below w.heap.size w w' := by
  by_cases hlen : l.length = r.length
  · have Hs := hide hs.bound
    have Hs' := hide hs'.bound
    clear hs hs'
    have hb0 : ((l.length : Int) != (r.length : Int)) = false := by rw [bne_eq_false_iff_eq]; omega
    have Hlen := hide hlen
    obtain ⟨N, hN⟩ : ∃ N, N = l.length := ⟨_, rfl⟩
    obtain ⟨N', hN'⟩ : ∃ N', N' = r.length := ⟨_, rfl⟩
    rw [← hN, ← hN'] at hb0 ⊢
    have HN := hide hN
    have HN' := hide hN'
    have hNl : N ≤ 9223372036854775807 := by omega
    have hNN : N = N' := by omega
    have HNN := hide hNN
    clear hN hN' hl hlen hNN
    go_enter Tryd.func28, Tryd.ntmps28
    go_wp2
    go_loopw [5] (fun i wr => ∃ k : Nat, k ≤ N ∧ i = .int .i64 k ∧ (∀ j, j < k → l.getD j [] = r.getD j []) ∧ Below w.heap.size w wr) (fun i _ => N - (intOf i).toNat)
    case atStart => exact ⟨0, Nat.zero_le _, rfl, fun j h => absurd h (Nat.not_lt_zero _), Below.refl _ _⟩
    case round =>
      obtain ⟨k, hk, rfl, hall, hb⟩ := hrel
      have Hall := hide hall
      have Hb := hide hb
      clear hall hb
      by_cases hlt : k < N
      · obtain ⟨b, o, rfl, ck⟩ := Hs.out.text Hb.out (k := k) (by have := HN.out; omega)
        obtain ⟨b', o', rfl, ck'⟩ := Hs'.out.text Hb.out (k := k) (by have := HN'.out; have := HNN.out; omega)
        have hlt' : k < N' := by have := HNN.out; omega
        by_cases hx : l.getD k [] = r.getD k []
        · have Hx := hide hx
          rw [hx] at ck
          clear hx
          generalize (r.getD k []).toArray = x at *
          go_wp2
          go_quiet (fail)
          go_wp2
          refine ⟨⟨k + 1, by omega, by go_num, fun j hj => ?_, below_drewN Hb.out _⟩, by simp [intOf]; omega⟩
          rcases Nat.lt_or_ge j k with hj' | hj'
          · exact Hall.out j hj'
          · obtain rfl : j = k := by omega
            exact Hx.out
        · have hxn := eq_txt (l.getD k []) (r.getD k [])
          rw [decide_eq_false hx] at hxn
          have Hx := hide hx
          clear hx
          generalize (r.getD k []).toArray = x at *
          generalize (l.getD k []).toArray = y at *
          go_wp2
          go_quiet (fail)
          go_wp2
          go_ret
          refine ⟨?_, below_drewN Hb.out _⟩
          have hd : decide (l = r) = false := decide_eq_false fun h => Hx.out (by rw [h])
          rw [hd]; rfl
      · obtain rfl : k = N := by omega
        go_wp2
        go_ret
        refine ⟨?_, Hb.out⟩
        have hd : decide (l = r) = true := decide_eq_true (texts_same l r Hlen.out fun j hj => Hall.out j (by have := HN.out; omega))
        rw [hd]; rfl
  · have hb0 : ((l.length : Int) != (r.length : Int)) = true := by rw [bne_iff_ne]; omega
    have Hd := hide (show decide (l = r) = false from decide_eq_false fun h => hlen (by rw [h]))
    clear hs hs' hlen
    go_enter Tryd.func28, Tryd.ntmps28
    go_wp2
    go_ret
    exact ⟨by rw [Hd.out]; rfl, Below.refl _ _⟩

theorem app_txt (x y : List UInt8) : ByteArray.mk x.toArray ++ ByteArray.mk y.toArray = ⟨(x ++ y).toArray⟩ := by
  apply ByteArray.ext
  simp
end Go.Proofs.YtnehgogajghefaaDoor.Li
namespace Go.Proofs.YtnehgogajghefaaDoor.Df

/-- how long the longest common subsequence is -/
def lcs {α : Type} [DecidableEq α] : List α → List α → Nat
  | [], _ => 0
  | _ :: _, [] => 0
  | a :: x, b :: y => if a = b then lcs x y + 1 else max (lcs x (b :: y)) (lcs (a :: x) y)
termination_by x y => x.length + y.length

section
variable {α : Type} [DecidableEq α]
theorem lcs_nil_left (y : List α) : lcs [] y = 0 := by rw [lcs]
theorem lcs_nil_right (x : List α) : lcs x [] = 0 := by
  cases x with
  | nil => rw [lcs]
  | cons a x => rw [lcs]
theorem lcs_cons (a b : α) (x y : List α) : lcs (a :: x) (b :: y) = if a = b then lcs x y + 1 else max (lcs x (b :: y)) (lcs (a :: x) y) := by rw [lcs]
end

/-- an edit -/
structure Ed where
  pos : Int
  del : Int
  ins : List (List UInt8)
abbrev Ls := List (List UInt8)
def emit (pos del : Nat) (ins : Ls) : List Ed := if del = 0 ∧ ins = [] then [] else [⟨pos, del, ins⟩]
/-- the way, line by line: behind 'pos' lines of a 'del' have gone, and 'ins' come, since a line stayed last -/
def go : Ls → Ls → Nat → Nat → Ls → List Ed
  | [], [], pos, del, ins => emit pos del ins
  | [], b :: y, pos, del, ins => go [] y pos del (ins ++ [b])
  | _ :: x, [], pos, del, ins => go x [] pos (del + 1) ins
  | a :: x, b :: y, pos, del, ins =>
    if a = b then emit pos del ins ++ go x y (pos + del + 1) 0 []
    else if lcs (a :: x) y ≤ lcs x (b :: y) then go x (b :: y) pos (del + 1) ins else go (a :: x) y pos del (ins ++ [b])
termination_by x y => x.length + y.length
/-- how many lines go and come -/
def size : List Ed → Int
  | [] => 0
  | e :: l => max 0 e.del + e.ins.length + size l
/-- are edits right, behind an edit that ends at 'last'? -/
def right (n : Int) : Int → List Ed → Bool
  | _, [] => true
  | last, e :: l => (decide (0 ≤ e.del) && decide (e.del ≠ 0 ∨ e.ins ≠ []) && decide (last < e.pos) && decide (e.pos ≤ n) && decide (e.del ≤ n - e.pos)) && right n (e.pos + e.del) l
end Go.Proofs.YtnehgogajghefaaDoor.Df
namespace Go.Proofs.YtnehgogajghefaaDoor.Df
open Go Go.RowKit Kt Lw

abbrev tS : TypeId := 9
/-- an edit's cells -/
def edC (e : Ed) (vi : Value) : List Value := [.int .i64 e.pos, .int .i64 e.del, vi]
theorem flat_at {α : Type} (f : α → List Value) (n : Nat) (hf : ∀ a, (f a).length = n) : ∀ (l : List α) (j k : Nat) (a : α), l[j]? = some a → k < n → (l.flatMap f)[n * j + k]? = (f a)[k]?
  | [], j, k, a, h, _ => by simp at h
  | b :: l, 0, k, a, h, hk => by
    simp at h
    subst h
    rw [List.flatMap_cons, Nat.mul_zero, Nat.zero_add, List.getElem?_append_left (by rw [hf]; exact hk)]
  | b :: l, j + 1, k, a, h, hk => by
    rw [List.flatMap_cons, List.getElem?_append_right (by rw [hf, Nat.mul_succ]; omega), hf]
    rw [show n * (j + 1) + k - n = n * j + k from by rw [Nat.mul_succ]; omega]
    exact flat_at f n hf l j k a (by simpa using h) hk
theorem flat_len {α : Type} (f : α → List Value) (n : Nat) (hf : ∀ a, (f a).length = n) (l : List α) : (l.flatMap f).length = l.length * n := by
  induction l with
  | nil => simp
  | cons a l ih => rw [List.flatMap_cons, List.length_append, hf, ih, List.length_cons, Nat.succ_mul]; omega
/-- '.slice A n c' reads as these edits -/
def Es (w : World) (A : Option Addr) (c : Nat) (L : List Ed) : Prop :=
  L.length ≤ c ∧ (0 < L.length → ∃ b o, A = some ⟨b, o, none⟩ ∧ b < w.heap.size ∧ ∀ j e, L[j]? = some e →
    ∃ A' c', w.rangeAt b (o + 3 * j) (edC e (.slice A' e.ins.length c')) ∧ Vs w (fun b => b < w.heap.size) A' c' (texts e.ins))
theorem vs_keep {w w' : World} {A : Option Addr} {c : Nat} {vs : List Value} (h : Vs w (fun b => b < w.heap.size) A c vs) (hb : Below w.heap.size w w') : Vs w' (fun b => b < w'.heap.size) A c vs :=
  Lw.Vs.bound (Lw.Vs.below h hb)
theorem Es.keep {w w' : World} {A : Option Addr} {c : Nat} {L : List Ed} (h : Es w A c L) (hb : Below w.heap.size w w') : Es w' A c L :=
  ⟨h.1, fun hn => by
    obtain ⟨b, o, rfl, hlt, he⟩ := h.2 hn
    refine ⟨b, o, rfl, Nat.lt_of_lt_of_le hlt hb.size, fun j e hj => ?_⟩
    obtain ⟨A', c', hr, hv⟩ := he j e hj
    exact ⟨A', c', fun i v hi => (World.cell?_of_block (a := ⟨b, o + 3 * j + i, none⟩) (hb.block b hlt)).trans (hr i v hi), vs_keep hv hb⟩⟩
theorem Es.nil (w : World) (A : Option Addr) (c : Nat) : Es w A c [] := ⟨Nat.zero_le _, fun h => by simp at h⟩
end Go.Proofs.YtnehgogajghefaaDoor.Df
