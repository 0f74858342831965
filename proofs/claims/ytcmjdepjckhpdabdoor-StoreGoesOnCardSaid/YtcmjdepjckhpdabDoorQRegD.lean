/-
  A region that draws its order, walked along a tree: where two operations that write or make memory may come next, both ways are walked.
-/
import Derived.Test.YtcmjdepjckhpdabDoorQZB
import Derived.Test.YtcmjdepjckhpdabDoorZC
import Derived.Test.YtcmjdepjckhpdabDoorQWS
import Derived.Deep.Slices
import Derived.Test.YtcmjdepjckhpdabDoorKit
import Derived.Deep.QuietTactic
import Derived.BigQuiet
import Derived.Test.YtcmjdepjckhpdabDoorWD
namespace Go.Proofs.YtcmjdepjckhpdabDoor.Rd
open Go Rg

/-- leaf: all is done · take n: the quiet operation n is taken ahead · one n: n alone may come · fork n m: n, or m, may come -/
inductive Tree where
  | leaf
  | take (n : Nat) (t : Tree)
  | one (n : Nat) (t : Tree)
  | fork (n : Nat) (t : Tree) (m : Nat) (u : Tree)
section
variable {P : Program} {ops : Array Oper} {Q : Exit → Act → World → Prop} {S : World → Prop}
def stepLoud (P : Program) (ops : Array Oper) (Q : Exit → Act → World → Prop) (S : World → Prop) (n : Nat) (o : Oper) (K : Act → World → Prop) (a : Act) (w : World) : Prop :=
  if Region.wanted o (yielded ops a.tmps) then o.wp P a w (fun a' w' => (sink ops n = false → S w') ∧ K a' w') Q else ((sink ops n = false → S w) ∧ K (a.put o.dst undef) w)
def wpTree (P : Program) (l : List Oper) (Q : Exit → Act → World → Prop) (S : World → Prop) : Tree → Act → World → Prop
  | .leaf, a, w => Q .normal a w
  | .take n t, a, w => ∃ v, YieldsIf P l.toArray S (l.getD n default) v a ∧ S w ∧ wpTree P l Q S t (a.put (l.getD n default).dst v) w
  | .one n t, a, w => stepLoud P l.toArray Q S n (l.getD n default) (wpTree P l Q S t) a w
  | .fork n t m u, a, w => stepLoud P l.toArray Q S n (l.getD n default) (wpTree P l Q S t) a w ∧ stepLoud P l.toArray Q S m (l.getD m default) (wpTree P l Q S u) a w
def treeFrom (ops : Array Oper) : Nat → Array Bool → Tree → Bool
  | 0, listed, .leaf => (Region.ready .any ops listed).isEmpty
  | f + 1, listed, .take n t => decide (n < ops.size) && ((Region.ready .any ops listed).contains n && Region.free .any ops listed n && closed ops listed) && treeFrom ops f (listed.setIfInBounds n true) t
  | f + 1, listed, .one n t => decide (n < ops.size) && (Region.ready .any ops listed == [n]) && treeFrom ops f (listed.setIfInBounds n true) t
  | f + 1, listed, .fork n t m u => decide (n < ops.size) && decide (m < ops.size) && (Region.ready .any ops listed == [n, m]) && treeFrom ops f (listed.setIfInBounds n true) t && treeFrom ops f (listed.setIfInBounds m true) u
  | _, _, _ => false
def treePlan (ops : Array Oper) (t : Tree) : Bool := inside ops && Region.noSelect ops && treeFrom ops ops.size (Array.replicate ops.size false) t

theorem get_of {l : List Oper} {n : Nat} (h : n < l.toArray.size) : l.toArray[n]? = some (l.getD n default) := by
  have : n < l.length := by simpa using h
  simp [List.getElem?_eq_getElem this]
theorem loud_sound {l : List Oper} {n f : Nat} {t : Tree} {listed : Array Bool} {a : Act} {w : World} (hn : n < l.toArray.size)
    (ih : ∀ a' w', wpTree P l Q S t a' w' → Rg.wpAnyS P l.toArray Q S f (listed.setIfInBounds n true) a' w')
    (h : stepLoud P l.toArray Q S n (l.getD n default) (wpTree P l Q S t) a w) :
    wpOp P l.toArray Q n (fun a' w' => (sink l.toArray n = false → S w') ∧ Rg.wpAnyS P l.toArray Q S f (listed.setIfInBounds n true) a' w') a w := by
  unfold wpOp
  simp only [get_of hn]
  unfold stepLoud at h
  split
  · rename_i hw
    rw [if_pos hw] at h
    exact .inl (Oper.wp_mono (fun a' w' h' => ⟨h'.1, ih a' w' h'.2⟩) h)
  · rename_i hw
    rw [if_neg hw] at h
    exact ⟨h.1, ih _ _ h.2⟩
theorem tree_sound {l : List Oper} (hin : inside l.toArray = true) (hsel : ∀ (j : Nat) (o : Oper) cs b, l.toArray[j]? = some o → o.op ≠ .select cs b) (hQ : ∀ c a d v w, Q (.panic c) (Act.put a d v) w → Q (.panic c) a w) :
    ∀ (f : Nat) (t : Tree) (listed : Array Bool) (a : Act) (w : World), treeFrom l.toArray f listed t = true → wpTree P l Q S t a w → Rg.wpAnyS P l.toArray Q S f listed a w
  | 0, .leaf, listed, a, w, hp, h => by
    simp only [treeFrom, List.isEmpty_iff] at hp
    exact ⟨hp, h⟩
  | f + 1, .take n t, listed, a, w, hp, h => by
    simp only [treeFrom, Bool.and_eq_true, decide_eq_true_eq] at hp
    obtain ⟨⟨hlt, hp1⟩, hp3⟩ := hp
    obtain ⟨v, hy, hS, h⟩ := h
    have ih := tree_sound hin hsel hQ f t _ _ w hp3 h
    exact S_first (get_of hlt) hsel (fun c a w => hQ c a _ _ w) _ _ _ _ (Region.free_spec (get_of hlt) hp1.1.2) (by simpa using hp1.1.1) (closed_spec hp1.2 (inside_spec hin)) hy hS ih
  | f + 1, .one n t, listed, a, w, hp, h => by
    simp only [treeFrom, Bool.and_eq_true, decide_eq_true_eq, beq_iff_eq] at hp
    obtain ⟨⟨hlt, hp1⟩, hp3⟩ := hp
    refine ⟨fun h0 => (by rw [h0] at hp1; cases hp1), fun i hii => ?_⟩
    rw [hp1] at hii
    obtain rfl := List.mem_singleton.1 hii
    exact loud_sound hlt (fun a' w' h' => tree_sound hin hsel hQ f t _ a' w' hp3 h') h
  | f + 1, .fork n t m u, listed, a, w, hp, h => by
    simp only [treeFrom, Bool.and_eq_true, decide_eq_true_eq, beq_iff_eq] at hp
    obtain ⟨⟨⟨⟨hn, hm⟩, hp1⟩, hp3⟩, hp4⟩ := hp
    refine ⟨fun h0 => (by rw [h0] at hp1; cases hp1), fun i hii => ?_⟩
    rw [hp1] at hii
    rcases List.mem_cons.1 hii with rfl | hii
    · exact loud_sound hn (fun a' w' h' => tree_sound hin hsel hQ f t _ a' w' hp3 h') h.1
    · obtain rfl := List.mem_singleton.1 hii
      exact loud_sound hm (fun a' w' h' => tree_sound hin hsel hQ f u _ a' w' hp4 h') h.2
  | 0, .take _ _, _, _, _, hp, _ => by simp [treeFrom] at hp
  | 0, .one _ _, _, _, _, hp, _ => by simp [treeFrom] at hp
  | 0, .fork _ _ _ _, _, _, _, hp, _ => by simp [treeFrom] at hp
  | _ + 1, .leaf, _, _, _, hp, _ => by simp [treeFrom] at hp

/-- THE REGION, WALKED ALONG THE TREE. -/
theorem wp_region_tree {id : Nat} {l : List Oper} {a : Act} {w : World} (S : World → Prop) (t : Tree) (hm : P.follows .mixedOrders = true) (hp : treePlan l.toArray t = true)
    (h : wpTree P l (NoPanic Q) S t a w.drew) : (Code.region id l.toArray true).wp P Q a w := by
  refine wp_region_noPanic ?_
  simp only [treePlan, Bool.and_eq_true] at hp
  obtain ⟨⟨h0, h1⟩, h3⟩ := hp
  refine wp_region_any hm (any_of_S (S := S) _ _ _ _ ?_)
  exact tree_sound (P := P) (S := S) h0 (Region.noSelect_spec h1) (fun _ _ _ _ _ h => h) _ t _ a w.drew h3 h
theorem tree_quiet {l : List Oper} {n : Nat} {o : Oper} {t : Tree} {a : Act} {w : World} {v : Value} (ho : l.getD n default = o) (hg : o.guard = none) (hy : ∀ w', S w' → (execOp a.eval o).run P w' = .ok (.value v) w') (hS : S w)
    (h : wpTree P l Q S t (a.put o.dst v) w) : wpTree P l Q S (.take n t) a w := by
  subst ho
  exact ⟨v, .inl ⟨by unfold Region.wanted; rw [hg], hy⟩, hS, h⟩
theorem loud_of {l : List Oper} {n : Nat} {o : Oper} {t : Tree} {a : Act} {w : World} (ho : l.getD n default = o) (hg : Region.wanted o (yielded l.toArray a.tmps) = true)
    (h : ∀ K : Act → World → Prop, (∀ a' w', (sink l.toArray n = false → S w') → wpTree P l Q S t a' w' → K a' w') → o.wp P a w K Q) : stepLoud P l.toArray Q S n (l.getD n default) (wpTree P l Q S t) a w := by
  subst ho
  unfold stepLoud
  rw [if_pos hg]
  exact h _ fun a' w' h1 h2 => ⟨h1, h2⟩
theorem tree_one {l : List Oper} {n : Nat} {o : Oper} {t : Tree} {a : Act} {w : World} (ho : l.getD n default = o) (hg : Region.wanted o (yielded l.toArray a.tmps) = true)
    (h : ∀ K : Act → World → Prop, (∀ a' w', (sink l.toArray n = false → S w') → wpTree P l Q S t a' w' → K a' w') → o.wp P a w K Q) : wpTree P l Q S (.one n t) a w := loud_of ho hg h
theorem tree_fork {l : List Oper} {n m : Nat} {o o' : Oper} {t u : Tree} {a : Act} {w : World} (ho : l.getD n default = o) (hg : Region.wanted o (yielded l.toArray a.tmps) = true) (ho' : l.getD m default = o') (hg' : Region.wanted o' (yielded l.toArray a.tmps) = true)
    (h : ∀ K : Act → World → Prop, (∀ a' w', (sink l.toArray n = false → S w') → wpTree P l Q S t a' w' → K a' w') → o.wp P a w K Q)
    (h' : ∀ K : Act → World → Prop, (∀ a' w', (sink l.toArray m = false → S w') → wpTree P l Q S u a' w' → K a' w') → o'.wp P a w K Q) : wpTree P l Q S (.fork n t m u) a w :=
  ⟨loud_of ho hg h, loud_of ho' hg' h'⟩
theorem tree_leaf {l : List Oper} {a : Act} {w : World} (h : Q .normal a w) : wpTree P l (NoPanic Q) S .leaf a w := NoPanic.normal h
end
end Go.Proofs.YtcmjdepjckhpdabDoor.Rd
namespace Go.Proofs.YtcmjdepjckhpdabDoor.So
open Go Go.RowKit Kt Kg Wr Lw Sha Dk Dg

theorem conv_id (s : List UInt8) (w : World) : ∃ cap ob, (convert 35 38 (.string ⟨s.toArray⟩)).run Tryd.prog w = .ok (.slice (some ⟨w.heap.size, 0, none⟩) s.length cap) (w.drew.alloc ob) ∧ Sl (w.drew.alloc ob) (fun _ => True) (some ⟨w.heap.size, 0, none⟩) cap s := by
  refine ⟨_, _, run_bytes_of_string w 35 38 5 ⟨s.toArray⟩ Tryd.underlying35 Tryd.underlying38 Tryd.underlying5, ?_, fun hn => ⟨_, 0, rfl, trivial, fun j hj => ?_⟩⟩
  · have := grownCap_ge w (ByteArray.size ⟨s.toArray⟩) 0 5
    simpa [ByteArray.size] using this
  · rw [Nat.zero_add, cell_of_row _ w.heap.size j _ _ _ (heap_alloc_new w.drew _), bytesRow_at _ _ _ (by simpa using hj)]
    simp [List.getElem?_eq_getElem hj]
theorem own_based {w : World} {B B' : Nat} {E : TypeId} {v : Value} {l : List UInt8} (h : Own w B E v l) (hb : B' ≤ B) : Own w B' E v l :=
  ⟨h.1, h.2.imp id fun ⟨g, cap, cur, hv, h1, h2⟩ => ⟨g, cap, cur, hv, Nat.le_trans hb h1, h2⟩⟩
theorem front_txt (l : List UInt8) (k : Nat) : (ByteArray.mk l.toArray).extract 0 k = ⟨(l.take k).toArray⟩ := by
  apply ByteArray.ext
  simp
end Go.Proofs.YtcmjdepjckhpdabDoor.So
namespace Go.Proofs.YtcmjdepjckhpdabDoor.So
open Go Go.RowKit Kt Kg Wr Lw Sha Dk Dg

def rput14 (r : Rt) (L : List Bs) (b : Bs) : (Rt × List Bs) × Bs × Nat :=
  if 131072 < b.length then ((r, L), [], 4)
  else if sha b ∈ L.map sha then ((r, L), sha b, 0)
  else if (rput r (record b)).2 = 0 then (((rput r (record b)).1, L ++ [b]), sha b, 0)
  else (((rput r (record b)).1, L), [], (rput r (record b)).2)
theorem tabR_keep {w w' : World} (h : TabR w) (hb : Below w.heap.size w w') : TabR w' := by
  intro i hi
  have := h i hi
  exact (World.cell?_of_block (hb.block _ (World.block_lt_of_cell? w _ this))).trans this
theorem infoId : (Tryd.prog.info? tId).map (fun i => (i.zero, i.size, i.bytes)) = some (some (.string ⟨#[]⟩), 1, 16) := by kernel_rfl
theorem infoS : (Tryd.prog.info? tS).map (fun i => (i.zero, i.size, i.bytes)) = some (some (.string ⟨#[]⟩), 1, 16) := by kernel_rfl
/-- append of one text: where the row lies then -/
theorem wp_pushT2 {P : Program} {o : Oper} {a : Act} {K : Act → World → Prop} {Q : Exit → Act → World → Prop} {W : World} {E : TypeId} (s x : Operand) (t : TypeId)
    (ho : o.op = .call { callee := .builtin .append, args := #[s, x], argTypes := #[t, t] })
    (ht : P.underlying t = some (.slice E)) (hi : (P.info? E).map (fun i => (i.zero, i.size, i.bytes)) = some (some (.string ⟨#[]⟩), 1, 16))
    (S : Nat → Prop) (v : Value) (l : List Bs) (e : Bs) (cs : Array Value) (hs : a.eval s = v) (hx : a.eval x = .slice (some ⟨W.heap.size, 0, none⟩) 1 1) (hc : cs = #[.string ⟨e.toArray⟩])
    (hown : OTS W S E v l) (hlen : l.length + 1 ≤ 1000000000)
    (h : ∀ g cap w', OTS w' (fun k => S k ∨ W.heap.size ≤ k) E (.slice (some ⟨g, 0, none⟩) (l.length + 1) cap) (l ++ [e]) → W.grownBy w' v.ownBlock → K (a.put o.dst (.slice (some ⟨g, 0, none⟩) (l.length + 1) cap)) w') : o.wp P a (W.alloc (.cells cs E)) K Q := by
  obtain ⟨i0, hi0, hz0, hz1, hz2⟩ := info_parts hi
  subst hc
  refine wp_append_lies _ s x t ho 0 E i0 (.string ⟨#[]⟩) 1 16 ht hi0 hz0 hz1 hz2 rfl (by omega) v l.length (texts l) hs (World.ownsRow.alloc hown.1 _)
    ⟨W.heap.size, 0, none⟩ 1 1 (texts [e]) hx (by simp [texts]) (fun j u hu => ?_) (texts_one [e]) (by omega) (by unfold maxLen; omega) (by omega) (Nat.zero_le _) _ rfl (fun g cap w' h1 h2 h3 h4 => ?_)
  · rw [Addr.add_mid, (Row.fresh W E #[.string ⟨e.toArray⟩]).cell]
    simpa [texts] using hu
  · refine h g cap w' ⟨?_, fun g' hg' => ?_⟩ (grownBy_back _ h2)
    · unfold OwT
      rw [List.length_append, texts_append]
      exact h1
    · obtain rfl : g = g' := by simpa [Value.ownBlock] using hg'
      exact h3.elim (fun e => .inl (hown.2 g e)) fun e => .inr (by rw [e, World.size_alloc]; exact Nat.le_succ _)
theorem wpList_pushT2 {P : Program} {ops : Array Oper} {rest : List Oper} {o : Oper} {a : Act} {Q : Exit → Act → World → Prop} {W : World} {E : TypeId} (hgd : o.guard = none) (s x : Operand) (t : TypeId)
    (ho : o.op = .call { callee := .builtin .append, args := #[s, x], argTypes := #[t, t] })
    (ht : P.underlying t = some (.slice E)) (hi : (P.info? E).map (fun i => (i.zero, i.size, i.bytes)) = some (some (.string ⟨#[]⟩), 1, 16))
    (S : Nat → Prop) (v : Value) (l : List Bs) (e : Bs) (cs : Array Value) (hs : a.eval s = v) (hx : a.eval x = .slice (some ⟨W.heap.size, 0, none⟩) 1 1) (hc : cs = #[.string ⟨e.toArray⟩])
    (hown : OTS W S E v l) (hlen : l.length + 1 ≤ 1000000000)
    (h : ∀ g cap w', OTS w' (fun k => S k ∨ W.heap.size ≤ k) E (.slice (some ⟨g, 0, none⟩) (l.length + 1) cap) (l ++ [e]) → W.grownBy w' v.ownBlock → wpList P ops Q rest (a.put o.dst (.slice (some ⟨g, 0, none⟩) (l.length + 1) cap)) w') : wpList P ops Q (o :: rest) a (W.alloc (.cells cs E)) :=
  wpList_plain hgd fun _ hK => wp_pushT2 s x t ho ht hi S v l e cs hs hx hc hown hlen fun g cap w' h1 h2 => hK _ _ (h g cap w' h1 h2)
theorem ots_ne {w : World} {S T : Nat → Prop} {E E' : TypeId} {v u : Value} {l m : List Bs} (h : OTS w S E v l) (h' : OTS w T E' u m) (hne : E ≠ E') : ∀ g, v.ownBlock = some g → u.ownBlock ≠ some g := by
  intro g hg hg'
  rcases h.1.2 with ⟨rfl, _⟩ | ⟨g1, cap, cur, rfl, _, hh, _⟩
  · cases hg
  · rcases h'.1.2 with ⟨rfl, _⟩ | ⟨g2, cap2, cur2, rfl, _, hh2, _⟩
    · cases hg'
    · obtain rfl : g1 = g := by simpa [Value.ownBlock] using hg
      obtain rfl : g2 = g1 := by simpa [Value.ownBlock] using hg'
      rw [hh] at hh2
      simp only [Option.some.injEq, Obj.cells.injEq] at hh2
      exact hne hh2.2.1
theorem sl_text {w : World} {P : Nat → Prop} {A : Option Addr} {c n : Nat} {l : List UInt8} (h : Sl w P A c l) (hn : n = l.length) : (convert 38 9 (.slice A n c)).run Tryd.prog w = .ok (.string ⟨l.toArray⟩) w := by
  subst hn
  by_cases h0 : l = []
  · subst h0
    rw [run_convert_bytes_string w 38 9 5 A _ c Tryd.underlying38 Tryd.underlying5 Tryd.underlying9]
    cases A <;> rfl
  · have hn : 0 < l.length := List.length_pos_iff.2 h0
    obtain ⟨b, o, rfl, _, hc⟩ := h.2 hn
    exact run_convert_bytes_back w 38 9 5 ⟨b, o, none⟩ c l Tryd.underlying38 Tryd.underlying5 Tryd.underlying9 (fun j hj => by rw [Addr.add_mid, hc j hj]; simp [List.getElem?_eq_getElem hj])
abbrev mor (S : Nat → Prop) (w w' : World) : Nat → Prop := fun k => (S k ∨ w.heap.size ≤ k) ∧ k < w'.heap.size
end Go.Proofs.YtcmjdepjckhpdabDoor.So
namespace Go.Proofs.YtcmjdepjckhpdabDoor.So
open Go Go.RowKit Kt Kg Wr Lw Sha Dk Dg

def fewT (l : List Bs) : Bool := l.all (fun x => decide (x.length ≤ 60)) && decide (l.length ≤ 16)
theorem fewT_spec {l : List Bs} (h : fewT l = true) : (∀ x ∈ l, x.length ≤ 60) ∧ l.length ≤ 16 := by
  unfold fewT at h
  rw [Bool.and_eq_true, decide_eq_true_eq, List.all_eq_true] at h
  exact ⟨fun x hx => by simpa using h.1 x hx, h.2⟩
set_option maxHeartbeats 1000000 in
set_option maxRecDepth 100000 in
theorem fewT_any (L : List Bs) (A : Option Addr) (c : Nat) (P : Nat → Prop) (w : World) (hs : Vs w P A c (texts L)) (hl : L.length ≤ 9223372036854775807) :
    Calls Tryd.prog 5 #[.slice A L.length c] w fun y w' => y = .returned (.bool (fewT L)) ∧ Below w.heap.size w w' := by
  have Hs := hide hs
  obtain ⟨N, hN⟩ : ∃ N, N = L.length := ⟨_, rfl⟩
  rw [← hN] at hl ⊢
  have HN := hide hN
  clear hs hN
  go_enter Tryd.func5, Tryd.ntmps5
  go_wp2
  go_loopw [3] (fun i wr => ∃ k : Nat, k ≤ N ∧ i = .int .i64 k ∧ (∀ j e, j < k → L[j]? = some e → e.length ≤ 60) ∧ Below w.heap.size w wr) (fun i _ => N - (intOf i).toNat)
  case atStart => exact ⟨0, Nat.zero_le _, rfl, fun j e h => absurd h (Nat.not_lt_zero _), Below.refl _ _⟩
  case round =>
    obtain ⟨k, hk, rfl, hall, hb⟩ := hrel
    have Hb := hide hb
    have Hall := hide hall
    clear hb hall
    by_cases hlt : k < N
    · obtain ⟨e, he⟩ : ∃ e, L[k]? = some e := ⟨_, List.getElem?_eq_getElem (by have := HN.out; omega)⟩
      obtain ⟨b, o, rfl, hS, c0⟩ := vs_at Hs.out he
      have c0' := (World.cell?_of_block (a := ⟨b, o + k, none⟩) (Hb.out.block b (World.block_lt_of_cell? w _ c0))).trans c0
      have Hke := hide he
      clear c0 he hS
      obtain ⟨T, hT⟩ : ∃ T, T = ByteArray.mk e.toArray := ⟨_, rfl⟩
      have hM : T.size = e.length := by rw [hT]; rfl
      rw [← hT] at c0'
      by_cases h1 : T.size ≤ 60
      · have d1 : decide (60 < (T.size : Int)) = false := by simp; omega
        have h1' : ¬ 60 < T.size := by omega
        have Hy := hide (show e.length ≤ 60 by rw [← hM]; exact h1)
        clear hM hT
        go_wp2
        refine ⟨⟨k + 1, by omega, by go_num, fun j e' hj he' => ?_, Hb.out⟩, by simp [intOf]; omega⟩
        rcases Nat.lt_or_ge j k with hl | hl
        · exact Hall.out j e' hl he'
        · obtain rfl : j = k := by omega
          rw [Hke.out] at he'
          injection he' with he'
          rw [← he']; exact Hy.out
      · have d1 : decide (60 < (T.size : Int)) = true := by simp; omega
        have h1' : 60 < T.size := by omega
        have Hf := hide (show fewT L = false by
          unfold fewT
          rw [Bool.and_eq_false_iff]
          left
          rw [List.all_eq_false]
          exact ⟨e, List.mem_of_getElem? Hke.out, by rw [decide_eq_true_eq, ← hM]; exact h1⟩)
        clear hM hT
        go_wp2
        go_ret
        exact ⟨by rw [Hf.out]; rfl, Hb.out⟩
    · obtain rfl : k = N := by omega
      have Hf := hide (show fewT L = decide ((k : Int) ≤ 16) by
        unfold fewT
        have h1 : (L.all fun x => decide (x.length ≤ 60)) = true := by
          rw [List.all_eq_true]
          intro e he
          obtain ⟨j, hj⟩ := List.getElem?_of_mem he
          have hjl := (List.getElem?_eq_some_iff.1 hj).1
          exact decide_eq_true (Hall.out j e (by have := HN.out; omega) hj)
        rw [h1, Bool.true_and, decide_eq_decide]
        have := HN.out
        omega)
      go_wp2
      go_ret
      exact ⟨by rw [Hf.out]; simp, Hb.out⟩
set_option maxHeartbeats 1000000 in
set_option maxRecDepth 100000 in
theorem empty_any (n : Nat) (hn : n ≤ 16777216) (w : World) :
    Calls Tryd.prog 6 #[.int .i64 (n : Int)] w fun y w' => ∃ g h, y = .returned (.tuple #[.pointer (some ⟨g, 0, none⟩), .pointer (some ⟨h, 0, none⟩)]) ∧
      DkIn w' (· = g) g (new n) ∧ RtIn w' (· = h) h ⟨[], n, false, 0, false⟩ ∧ w.heap.size ≤ g ∧ g < h ∧ Below w.heap.size w w' := by
  have Hn := hide hn
  clear hn
  go_enter Tryd.func6, Tryd.ntmps6
  go_wp2_with fail
  refine (new_yes n Hn.out w).mono ?_
  rintro y w1 ⟨g, rfl, hd, hg, hb⟩
  have Hd := hide hd
  have Hg := hide hg
  have Hb := hide hb
  clear hd hg hb
  go_wp2
  refine bodyPost_ret (results_tmp2 rfl _ _ _) rfl ⟨g, w1.heap.size, rfl, Hd.out.below ((Below.refl _ w1).alloc (Nat.le_refl _) _), ⟨.slice none 0 0, Row.fresh w1 tR _, OwnS.nil _ _ _, rfl, fun k hk => ?_⟩, Nat.le_of_eq Hg.out.symm, Hd.out.lt g rfl, Hb.out.alloc Hb.out.size _⟩
  rw [hk, World.size_alloc]
  exact Nat.lt_succ_self _
end Go.Proofs.YtcmjdepjckhpdabDoor.So
namespace Go.Proofs.YtcmjdepjckhpdabDoor.So
open Go Go.RowKit Go.WideShapes Go.ChangeShapes Go.ChangeAt Go.ChangeMaps Go.Deep Kt Lw

def bools (l : List Bool) : List Value := l.map .bool
theorem bools_len (l : List Bool) : (bools l).length = l.length := by simp [bools]
theorem bools_of (Q : Nat → Bool → Prop) : ∀ n : Nat, (∀ i, i < n → ∃ a, Q i a) → ∃ L : List Bool, L.length = n ∧ ∀ j a, L[j]? = some a → Q j a
  | 0, _ => ⟨[], rfl, fun j a h => by simp at h⟩
  | n + 1, h => by
    obtain ⟨L, hL, hQ⟩ := bools_of Q n fun i hi => h i (by omega)
    obtain ⟨a, ha⟩ := h n (by omega)
    refine ⟨L ++ [a], by simp [hL], fun j b hj => ?_⟩
    by_cases hjn : j < L.length
    · rw [List.getElem?_append_left hjn] at hj
      exact hQ j b hj
    · rw [List.getElem?_append_right (by omega)] at hj
      obtain rfl : j = n := by
        have := (List.getElem?_eq_some_iff.1 hj).1
        simp at this; omega
      rw [hL, Nat.sub_self] at hj
      simp at hj
      rw [← hj]; exact ha
section
variable {H : Type} {enc : TypeId × Value → H}
set_option maxRecDepth 100000 in
theorem open_bools {W : World} {base : Nat} {v : Value} {d : DataW H} {ps : List MemPlace}
    (hval : Value.okWide Tryd.prog W .any base 23 v) (h : DataW.Trod enc Tryd.prog W 0 (fun _ => true) true 23 v d ps) :
    ∃ (l : List Bool) (A : Option Addr) (c : Nat), v = .slice A l.length c ∧ Vs W (fun b => b < W.heap.size) A c (bools l) ∧ l.length ≤ maxLen := by
  obtain ⟨a1, len, cap, rfl⟩ := okWide_slice Tryd.underlying23 hval
  obtain ⟨fuel, hf⟩ := h
  rcases open_slice Tryd.underlying23 hf with ⟨hcs, _⟩ | ⟨a, len', cap', m, n, D, Pl, hcs, _, hl, hm, hmm, _, hi⟩
  · simp [Value.cells] at hcs
    obtain ⟨rfl, rfl, rfl⟩ := hcs
    exact ⟨[], none, 0, rfl, ⟨Nat.zero_le _, fun h => by simp [bools] at h⟩, Nat.zero_le _⟩
  · simp [Value.cells] at hcs
    obtain ⟨rfl, rfl, rfl⟩ := hcs
    simp only [if_true] at hmm
    subst hmm
    have hC : Tryd.prog.cellsOf 4 = 1 := by kernel_rfl
    rw [hC] at hi
    have hel : ∀ i, i < len → ∃ e : Bool, W.cell? (a.add i) = some (.bool e) := by
      intro i hil
      obtain ⟨cs', hc, ht⟩ := hi i (by omega)
      obtain ⟨_, hcl, hat⟩ := World.cells?_some hc
      obtain ⟨b, e1, _⟩ := DataW.trod_bool Tryd.underlying4 ht
      have := hat 0 (by omega)
      rw [e1, Nat.mul_one] at this
      refine ⟨b, ?_⟩
      have h0 : ∀ x : Addr, x.add 0 = x := fun x => by unfold Addr.add; split <;> simp_all
      rw [h0] at this
      simpa using this
    obtain ⟨L, hLl, hQ⟩ := bools_of _ len hel
    refine ⟨L, some a, m, by rw [hLl], ⟨by simp [bools]; omega, fun hn => ?_⟩, by omega⟩
    have hn' : 0 < len := by simpa [bools, hLl] using hn
    obtain ⟨ab, ao, spot⟩ := a
    obtain ⟨e0, hc0⟩ := hel 0 hn'
    have hspot : spot = none := by simpa [Addr.add] using World.cell?_spot hc0
    subst hspot
    have hlt : ab < W.heap.size := by
      rw [Addr.add_mid] at hc0
      exact World.block_lt_of_cell? W _ hc0
    refine ⟨ab, ao, rfl, hlt, fun j u hu => ?_⟩
    unfold bools at hu
    rw [List.getElem?_map] at hu
    cases hj : L[j]? with
    | none => rw [hj] at hu; cases hu
    | some e =>
      rw [hj] at hu
      have := hQ j e hj
      rw [Addr.add_mid] at this
      rw [this]; exact hu
end
theorem bools_at {w : World} {S : Nat → Prop} {A : Option Addr} {c : Nat} {l : List Bool} (h : Vs w S A c (bools l)) {k : Nat} {x : Bool} (hk : l[k]? = some x) : ∃ b o, A = some ⟨b, o, none⟩ ∧ S b ∧ w.cell? ⟨b, o + k, none⟩ = some (.bool x) := by
  have hlt := (List.getElem?_eq_some_iff.1 hk).1
  obtain ⟨b, o, e, hp, hc⟩ := h.2 (by rw [bools_len]; omega)
  refine ⟨b, o, e, hp, hc k _ ?_⟩
  unfold bools
  rw [List.getElem?_map, hk]; rfl
end Go.Proofs.YtcmjdepjckhpdabDoor.So
namespace Go.Proofs.YtcmjdepjckhpdabDoor.Kf
open Go

def findB (n : Nat) : Code → Option Code
  | .seq a b => (findB n a).or (findB n b)
  | .block m b => if m = n then some (.block m b) else findB n b
  | .loop b => findB n b
  | .cond _ a b => (findB n a).or (findB n b)
  | _ => none
def findR (n : Nat) : Code → Option Code
  | .seq a b => (findR n a).or (findR n b)
  | .block _ b => findR n b
  | .loop b => findR n b
  | .cond _ a b => (findR n a).or (findR n b)
  | .region m ops dr => if m = n then some (.region m ops dr) else none
  | _ => none
theorem wp_last {P : Program} {c : Code} {Q : Exit → Act → World → Prop} {a : Act} {w : World} (h : Code.wp P c (Exit.then (fun a w => Q .normal a w) Q) a w) : Code.wp P c Q a w :=
  Code.wp_mono (fun e _ _ h => by cases e <;> exact h) h
end Go.Proofs.YtcmjdepjckhpdabDoor.Kf
namespace Go.Proofs.YtcmjdepjckhpdabDoor.So
open Go Go.RowKit Kt Kg Wr Lw Sha Dk Dg Kf

def findS (n : Nat) : Code → Option Code
  | .seq (.region m ops d) b => if m = n then some (.seq (.region m ops d) b) else findS n b
  | .seq a b => (findS n a).or (findS n b)
  | .block _ b => findS n b
  | .loop b => findS n b
  | .cond _ a b => (findS n a).or (findS n b)
  | _ => none

abbrev tR8 : TypeId := 38
theorem run_mid (w : World) (A : Option Addr) (n c i j : Nat) (hij : i ≤ j) (hj : j ≤ c) :
    (Instr.slice 38 (.slice A n c) (some (.int .i64 (i : Int))) (some (.int .i64 (j : Int))) none).run Tryd.prog w = .ok (.slice (if c = i then A else A.map (·.add i)) (j - i) (c - i)) w := by
  have hu := run_underlying Tryd.underlying38
  cases A with
  | none => go_simp
  | some ad => go_simp
end Go.Proofs.YtcmjdepjckhpdabDoor.So

namespace Go.Proofs.YtcmjdepjckhpdabDoor.Wr
open Go Go.RowKit Kt

theorem pow_seven (k : Nat) : 128 ^ k = 2 ^ (7 * k) := by rw [show (128 : Nat) = 2 ^ 7 from rfl, ← Nat.pow_mul]
/-- what a byte more makes of the number, in the machine's words -/
theorem or_step (m x k : Nat) (hm : m < 128 ^ k) (hk : k ≤ 9) :
    ∃ q : Nat, bits BinOp.or IntKind.u64 (m : Int) (IntKind.u64.wrap ((x : Int) % 128 * 2 ^ (7 * k))) = (q : Int) ∧ q < 18446744073709551616 ∧ (k ≤ 8 ∨ x ≤ 1 → q = m + 128 ^ k * (x % 128)) := by
  have e1 : IntKind.u64.wrap ((x : Int) % 128 * 2 ^ (7 * k)) = ((x % 128 * 128 ^ k % 18446744073709551616 : Nat) : Int) := by
    rw [IntKind.wrap_u64, pow_seven, Int.natCast_emod, Int.natCast_mul, Int.natCast_emod, Int.natCast_pow]
    rfl
  have hp : 128 ^ k ≤ 128 ^ 9 := Nat.pow_le_pow_right (by omega) hk
  have hmod := Nat.mod_lt (x % 128 * 128 ^ k) (show 0 < 18446744073709551616 by omega)
  rw [e1, u64_or_nat m _ (by omega) hmod]
  refine ⟨_, rfl, Nat.or_lt_two_pow (n := 64) (by omega) hmod, fun h => ?_⟩
  have hlt : x % 128 * 128 ^ k < 18446744073709551616 := by
    rcases h with h | h
    · have hp8 : 128 ^ k ≤ 128 ^ 8 := Nat.pow_le_pow_right (by omega) h
      have := Nat.mul_le_mul (show x % 128 ≤ 127 by omega) hp8
      omega
    · have := Nat.mul_le_mul (show x % 128 ≤ 1 by omega) hp
      omega
  rw [Nat.mod_eq_of_lt hlt, Nat.or_comm, Nat.mul_comm, pow_seven]
  rw [pow_seven] at hm
  rw [nat_join (7 * k) _ _ (Nat.mul_mod_right _ _) hm, Nat.add_comm]

theorem num_ok (bs : List UInt8) (k : Nat) (h : lead bs = k) (h9 : k < 10) (hk : k < bs.length) (hx : ¬ ((0 < k ∧ (bs.getD k 0).toNat = 0) ∨ (k = 9 ∧ 1 < (bs.getD k 0).toNat))) : numOf bs = (val (bs.take (k + 1)), k + 1, 0) := by
  unfold numOf
  rw [h, if_neg (by omega), if_neg (by omega), if_neg hx]
theorem num_form (bs : List UInt8) (k : Nat) (h : lead bs = k) (h9 : k < 10) (hk : k < bs.length) (hx : (0 < k ∧ (bs.getD k 0).toNat = 0) ∨ (k = 9 ∧ 1 < (bs.getD k 0).toNat)) : numOf bs = (0, 0, 3) := by
  unfold numOf
  rw [h, if_neg (by omega), if_neg (by omega), if_pos hx]
theorem num_short (bs : List UInt8) (h : ∀ j, j < bs.length → 128 ≤ (bs.getD j 0).toNat) (h9 : bs.length < 10) : numOf bs = (0, 0, 2) := by
  unfold numOf
  rw [lead_all bs h, if_neg (by omega), if_pos rfl]
theorem num_long (bs : List UInt8) (h : ∀ j, j < 10 → 128 ≤ (bs.getD j 0).toNat) (h9 : 10 ≤ bs.length) : numOf bs = (0, 0, 3) := by
  unfold numOf
  have : 10 ≤ lead bs := by
    rcases Nat.lt_or_ge (lead bs) 10 with h1 | h1
    · have := lead_stop bs (by omega)
      have := h _ h1
      omega
    · exact h1
  rw [if_pos this]

def numV (r : Nat × Nat × Nat) : Value := .tuple #[.int .u64 r.1, .int .i64 r.2.1, .int .i64 r.2.2]

set_option maxHeartbeats 1000000 in
set_option maxRecDepth 100000 in
theorem number_any (bs : List UInt8) (A : Option Addr) (c : Nat) (Pb : Nat → Prop) (w : World) (hs : Sl w Pb A c bs) (hl : bs.length ≤ 70368744177664) :
    Calls Tryd.prog 54 #[.slice A bs.length c] w fun e w' => e = .returned (numV (numOf bs)) ∧ w = w' := by
  have hc := hs.1
  by_cases h0 : bs = []
  · subst h0
    have e : numOf [] = (0, 0, 2) := by decide
    cases A with
    | none =>
      go_enter Tryd.func54, Tryd.ntmps54
      go_wp2
      go_loopw [5, 14] (fun n i wr => i = .int .i64 (0 : Nat) ∧ w = wr) (fun _ _ _ => 0)
      case atStart => exact ⟨rfl, rfl⟩
      case round =>
        obtain ⟨rfl, rfl⟩ := hrel
        go_wp2
        go_ret3
        exact ⟨by rw [e]; rfl, rfl⟩
    | some ad =>
      go_enter Tryd.func54, Tryd.ntmps54
      go_wp2
      go_loopw [5, 14] (fun n i wr => i = .int .i64 (0 : Nat) ∧ w = wr) (fun _ _ _ => 0)
      case atStart => exact ⟨rfl, rfl⟩
      case round =>
        obtain ⟨rfl, rfl⟩ := hrel
        go_wp2
        go_ret3
        exact ⟨by rw [e]; rfl, rfl⟩
  · obtain ⟨b, o, rfl, _, hcell⟩ := hs.2 (List.length_pos_iff.2 h0)
    have hpos : 0 < bs.length := List.length_pos_iff.2 h0
    have Hcell := hide hcell
    clear hcell hs
    obtain ⟨N, hN⟩ : ∃ N, N = bs.length := ⟨_, rfl⟩
    rw [← hN] at hc hl hpos
    obtain ⟨M, hM, hM2⟩ : ∃ M : Nat, (if (10 : Int) < (N : Int) then (10 : Int) else (N : Int)) = (M : Int) ∧ M = min 10 N := by
      refine ⟨min 10 N, ?_, rfl⟩
      split <;> omega
    have hMN : M ≤ N := by omega
    have hM10 : M ≤ 10 := by omega
    have HM := hide hM2
    clear hM2
    rw [← hN]
    have HN := hide hN
    clear hN
    go_enter Tryd.func54, Tryd.ntmps54
    go_wp2
    go_loopw [5, 14] (fun n i wr => ∃ k m : Nat, k ≤ M ∧ i = .int .i64 k ∧ n = .int .u64 m ∧ (∀ j, j < k → 128 ≤ (bs.getD j 0).toNat) ∧ (k ≤ 9 → m = val (bs.take k)) ∧ m < 18446744073709551616 ∧ w = wr) (fun _ i _ => M - (intOf i).toNat)
    case atStart => exact ⟨0, 0, Nat.zero_le _, rfl, rfl, fun j h => absurd h (Nat.not_lt_zero _), fun _ => rfl, by omega, rfl⟩
    case round =>
      obtain ⟨k, m, hk, rfl, rfl, hall, hval, hm, rfl⟩ := hrel
      have Hall := hide hall
      have Hval := hide hval
      have Hm := hide hm
      clear hall hval hm
      by_cases hlt : k < M
      · have hck := Hcell.out k (by have := HN.out; omega)
        obtain ⟨x, hx⟩ : ∃ x, x = (bs.getD k 0).toNat := ⟨_, rfl⟩
        rw [← hx] at hck
        have hx8 : x < 256 := by rw [hx]; exact toNat_lt _
        have Hx := hide hx
        clear hx
        have hmv : m = val (bs.take k) := Hval.out (by omega)
        have hkl : k < bs.length := by have := HN.out; omega
        have hml := val_lt (bs.take k)
        rw [← hmv, List.length_take, Nat.min_eq_left (by omega)] at hml
        obtain ⟨q, hq, hq64, hqv⟩ := or_step m x k hml (by omega)
        have hvs : val (bs.take (k + 1)) = m + 128 ^ k * (x % 128) := by
          rw [List.take_succ_eq_append_getElem hkl, val_append, ← hmv, List.length_take, Nat.min_eq_left (by omega)]
          have e : bs[k] = bs.getD k 0 := by simp [List.getElem?_eq_getElem hkl]
          rw [e]
          simp only [val]
          rw [← Hx.out]
          rfl
        have Hq := hide hq64
        have Hqv := hide (show k ≤ 8 ∨ x ≤ 1 → q = val (bs.take (k + 1)) from fun h => (hqv h).trans hvs.symm)
        have Hkl := hide hkl
        clear hq64 hqv hmv hkl hml hvs
        by_cases h128 : 128 ≤ x
        · go_wp2
          refine ⟨⟨k + 1, q, by omega, by go_num, rfl, fun j hj => ?_, fun h9 => Hqv.out (.inl (by omega)), Hq.out, trivial⟩, by simp [intOf]; omega⟩
          rcases Nat.lt_or_ge j k with hj' | hj'
          · exact Hall.out j hj'
          · obtain rfl : j = k := by omega
            rw [← Hx.out]; exact h128
        · have Hlead := hide (lead_of bs k Hkl.out Hall.out (by rw [← Hx.out]; omega))
          have Hxs := hide (show x = (bs.getD k 0).toNat from Hx.out)
          by_cases hk0 : k < 1
          · have Hr := hide (num_ok bs k Hlead.out (by omega) Hkl.out (by omega))
            rw [← Hqv.out (.inl (by omega))] at Hr
            go_wp2
            go_ret3
            exact ⟨by rw [Hr.out]; simp [numV], rfl⟩
          · by_cases hk9 : 8 < k
            · by_cases hx0 : x < 1
              · have Hr := hide (num_form bs k Hlead.out (by omega) Hkl.out (by rw [← Hxs.out]; omega))
                go_wp2
                go_ret3
                exact ⟨by rw [Hr.out]; simp [numV], rfl⟩
              · by_cases hx1 : x < 2
                · have Hr := hide (num_ok bs k Hlead.out (by omega) Hkl.out (by rw [← Hxs.out]; omega))
                  rw [← Hqv.out (.inr (by omega))] at Hr
                  have eb1 : ((x : Int) == 0) = false := beq_eq_false_iff_ne.2 (by omega)
                  have eb2 : decide (1 < (x : Int)) = false := decide_eq_false (by omega)
                  go_wp2
                  go_ret3
                  exact ⟨by rw [Hr.out]; simp [numV]; omega, rfl⟩
                · have Hr := hide (num_form bs k Hlead.out (by omega) Hkl.out (by rw [← Hxs.out]; omega))
                  go_wp2
                  go_ret3
                  exact ⟨by rw [Hr.out]; simp [numV], rfl⟩
            · by_cases hx0 : x < 1
              · have Hr := hide (num_form bs k Hlead.out (by omega) Hkl.out (by rw [← Hxs.out]; omega))
                go_wp2
                go_ret3
                exact ⟨by rw [Hr.out]; simp [numV], rfl⟩
              · have Hr := hide (num_ok bs k Hlead.out (by omega) Hkl.out (by rw [← Hxs.out]; omega))
                rw [← Hqv.out (.inl (by omega))] at Hr
                go_wp2
                go_ret3
                exact ⟨by rw [Hr.out]; simp [numV], rfl⟩
      · obtain rfl : k = M := by omega
        by_cases h10 : N < 10
        · have Hr := hide (num_short bs (fun j hj => Hall.out j (by have := HM.out; have := HN.out; omega)) (by have := HN.out; omega))
          go_wp2
          go_ret3
          exact ⟨by rw [Hr.out]; simp [numV], rfl⟩
        · have Hr := hide (num_long bs (fun j hj => Hall.out j (by have := HM.out; have := HN.out; omega)) (by have := HN.out; omega))
          go_wp2
          go_ret3
          exact ⟨by rw [Hr.out]; simp [numV], rfl⟩
end Go.Proofs.YtcmjdepjckhpdabDoor.Wr

namespace Go.Proofs.YtcmjdepjckhpdabDoor.Wr
open Go Go.RowKit Kt

theorem sl_take {w : World} {P : Nat → Prop} {A : Option Addr} {c k : Nat} {bs : List UInt8} (h : Sl w P A c bs) (hk : k ≤ bs.length) : Sl w P A c (bs.take k) := by
  have hl : (bs.take k).length = k := by rw [List.length_take]; omega
  refine ⟨by have := h.1; omega, fun hn => ?_⟩
  rw [hl] at hn
  obtain ⟨b, o, rfl, hp, hc⟩ := h.2 (by omega)
  refine ⟨b, o, rfl, hp, fun j hj => ?_⟩
  rw [hl] at hj
  rw [hc j (by omega), take_getD _ _ _ hj]

theorem text_bad (bs : List UInt8) (most : Int) (h : (numOf bs).2.2 ≠ 0) : textOf bs most = ([], 0, (numOf bs).2.2) := by unfold textOf; rw [if_pos h]
theorem text_over (bs : List UInt8) (most : Int) (n k : Nat) (h : numOf bs = (n, k, 0)) (h2 : (max most 0).toNat < n) : textOf bs most = ([], 0, 4) := by
  unfold textOf; rw [h, if_neg (by simp), if_pos h2]
theorem text_less (bs : List UInt8) (most : Int) (n k : Nat) (h : numOf bs = (n, k, 0)) (h2 : ¬ (max most 0).toNat < n) (h3 : bs.length - k < n) : textOf bs most = ([], 0, 2) := by
  unfold textOf; rw [h, if_neg (by simp), if_neg h2, if_pos h3]
theorem text_fine (bs : List UInt8) (most : Int) (n k : Nat) (h : numOf bs = (n, k, 0)) (h2 : ¬ (max most 0).toNat < n) (h3 : ¬ bs.length - k < n) : textOf bs most = ((bs.drop k).take n, k + n, 0) := by
  unfold textOf; rw [h, if_neg (by simp), if_neg h2, if_neg h3]

theorem clone_of (l : List UInt8) (n : Nat) (hn : l.length = n) (A : Option Addr) (c : Nat) (Pb : Nat → Prop) (w : World) (hs : Sl w Pb A c l) (hl : l.length ≤ 70368744177664) :
    Calls Tryd.prog 25 #[.slice A n c] w fun e w' => ∃ v, e = .returned v ∧ Own w' w.heap.size 5 v l ∧ Below w.heap.size w w' := by
  subst hn
  exact clone_any l A c Pb w hs hl

end Go.Proofs.YtcmjdepjckhpdabDoor.Wr
