/-
  A region that draws its order, walked along a tree: where two operations that write or make memory may come next, both ways are walked.
-/
import Derived.Test.YtcmjdepjckhpdaaDoorQZB
import Derived.Test.YtcmjdepjckhpdaaDoorZC
namespace Go.Proofs.YtcmjdepjckhpdaaDoor.Rd
open Go Rg

/-- leaf: all is done · take n: the quiet operation n is taken ahead · one n: n alone may come · fork n m: n, or m, may come -/
inductive Tree where
  | leaf
  | take (n : Nat) (t : Tree)
  | one (n : Nat) (t : Tree)
  | fork (n : Nat) (t : Tree) (m : Nat) (u : Tree)
section
variable {P : Program} {ops : Array Oper} {Q : Exit → Act → World → Prop} {S : World → Prop}
def stepLoud (P : Program) (ops : Array Oper) (Q : Exit → Act → World → Prop) (S : World → Prop) (n : Nat) (o : Oper) (K : Act → World → Prop) (a : Act) (w : World) : Prop :=
  if Region.wanted o (yielded ops a.tmps) then o.wp P a w (fun a' w' => (sink ops n = false → S w') ∧ K a' w') Q else ((sink ops n = false → S w) ∧ K (a.put o.dst undef) w)
def wpTree (P : Program) (l : List Oper) (Q : Exit → Act → World → Prop) (S : World → Prop) : Tree → Act → World → Prop
  | .leaf, a, w => Q .normal a w
  | .take n t, a, w => ∃ v, YieldsIf P l.toArray S (l.getD n default) v a ∧ S w ∧ wpTree P l Q S t (a.put (l.getD n default).dst v) w
  | .one n t, a, w => stepLoud P l.toArray Q S n (l.getD n default) (wpTree P l Q S t) a w
  | .fork n t m u, a, w => stepLoud P l.toArray Q S n (l.getD n default) (wpTree P l Q S t) a w ∧ stepLoud P l.toArray Q S m (l.getD m default) (wpTree P l Q S u) a w
def treeFrom (ops : Array Oper) : Nat → Array Bool → Tree → Bool
  | 0, listed, .leaf => (Region.ready .any ops listed).isEmpty
  | f + 1, listed, .take n t => decide (n < ops.size) && ((Region.ready .any ops listed).contains n && Region.free .any ops listed n && closed ops listed) && treeFrom ops f (listed.setIfInBounds n true) t
  | f + 1, listed, .one n t => decide (n < ops.size) && (Region.ready .any ops listed == [n]) && treeFrom ops f (listed.setIfInBounds n true) t
  | f + 1, listed, .fork n t m u => decide (n < ops.size) && decide (m < ops.size) && (Region.ready .any ops listed == [n, m]) && treeFrom ops f (listed.setIfInBounds n true) t && treeFrom ops f (listed.setIfInBounds m true) u
  | _, _, _ => false
def treePlan (ops : Array Oper) (t : Tree) : Bool := inside ops && Region.noSelect ops && treeFrom ops ops.size (Array.replicate ops.size false) t

theorem get_of {l : List Oper} {n : Nat} (h : n < l.toArray.size) : l.toArray[n]? = some (l.getD n default) := by
  have : n < l.length := by simpa using h
  simp [List.getElem?_eq_getElem this]
theorem loud_sound {l : List Oper} {n f : Nat} {t : Tree} {listed : Array Bool} {a : Act} {w : World} (hn : n < l.toArray.size)
    (ih : ∀ a' w', wpTree P l Q S t a' w' → Rg.wpAnyS P l.toArray Q S f (listed.setIfInBounds n true) a' w')
    (h : stepLoud P l.toArray Q S n (l.getD n default) (wpTree P l Q S t) a w) :
    wpOp P l.toArray Q n (fun a' w' => (sink l.toArray n = false → S w') ∧ Rg.wpAnyS P l.toArray Q S f (listed.setIfInBounds n true) a' w') a w := by
  unfold wpOp
  simp only [get_of hn]
  unfold stepLoud at h
  split
  · rename_i hw
    rw [if_pos hw] at h
    exact .inl (Oper.wp_mono (fun a' w' h' => ⟨h'.1, ih a' w' h'.2⟩) h)
  · rename_i hw
    rw [if_neg hw] at h
    exact ⟨h.1, ih _ _ h.2⟩
theorem tree_sound {l : List Oper} (hin : inside l.toArray = true) (hsel : ∀ (j : Nat) (o : Oper) cs b, l.toArray[j]? = some o → o.op ≠ .select cs b) (hQ : ∀ c a d v w, Q (.panic c) (Act.put a d v) w → Q (.panic c) a w) :
    ∀ (f : Nat) (t : Tree) (listed : Array Bool) (a : Act) (w : World), treeFrom l.toArray f listed t = true → wpTree P l Q S t a w → Rg.wpAnyS P l.toArray Q S f listed a w
  | 0, .leaf, listed, a, w, hp, h => by
    simp only [treeFrom, List.isEmpty_iff] at hp
    exact ⟨hp, h⟩
  | f + 1, .take n t, listed, a, w, hp, h => by
    simp only [treeFrom, Bool.and_eq_true, decide_eq_true_eq] at hp
    obtain ⟨⟨hlt, hp1⟩, hp3⟩ := hp
    obtain ⟨v, hy, hS, h⟩ := h
    have ih := tree_sound hin hsel hQ f t _ _ w hp3 h
    exact S_first (get_of hlt) hsel (fun c a w => hQ c a _ _ w) _ _ _ _ (Region.free_spec (get_of hlt) hp1.1.2) (by simpa using hp1.1.1) (closed_spec hp1.2 (inside_spec hin)) hy hS ih
  | f + 1, .one n t, listed, a, w, hp, h => by
    simp only [treeFrom, Bool.and_eq_true, decide_eq_true_eq, beq_iff_eq] at hp
    obtain ⟨⟨hlt, hp1⟩, hp3⟩ := hp
    refine ⟨fun h0 => (by rw [h0] at hp1; cases hp1), fun i hii => ?_⟩
    rw [hp1] at hii
    obtain rfl := List.mem_singleton.1 hii
    exact loud_sound hlt (fun a' w' h' => tree_sound hin hsel hQ f t _ a' w' hp3 h') h
  | f + 1, .fork n t m u, listed, a, w, hp, h => by
    simp only [treeFrom, Bool.and_eq_true, decide_eq_true_eq, beq_iff_eq] at hp
    obtain ⟨⟨⟨⟨hn, hm⟩, hp1⟩, hp3⟩, hp4⟩ := hp
    refine ⟨fun h0 => (by rw [h0] at hp1; cases hp1), fun i hii => ?_⟩
    rw [hp1] at hii
    rcases List.mem_cons.1 hii with rfl | hii
    · exact loud_sound hn (fun a' w' h' => tree_sound hin hsel hQ f t _ a' w' hp3 h') h.1
    · obtain rfl := List.mem_singleton.1 hii
      exact loud_sound hm (fun a' w' h' => tree_sound hin hsel hQ f u _ a' w' hp4 h') h.2
  | 0, .take _ _, _, _, _, hp, _ => by simp [treeFrom] at hp
  | 0, .one _ _, _, _, _, hp, _ => by simp [treeFrom] at hp
  | 0, .fork _ _ _ _, _, _, _, hp, _ => by simp [treeFrom] at hp
  | _ + 1, .leaf, _, _, _, hp, _ => by simp [treeFrom] at hp

/-- THE REGION, WALKED ALONG THE TREE. -/
theorem wp_region_tree {id : Nat} {l : List Oper} {a : Act} {w : World} (S : World → Prop) (t : Tree) (hm : P.follows .mixedOrders = true) (hp : treePlan l.toArray t = true)
    (h : wpTree P l (NoPanic Q) S t a w.drew) : (Code.region id l.toArray true).wp P Q a w := by
  refine wp_region_noPanic ?_
  simp only [treePlan, Bool.and_eq_true] at hp
  obtain ⟨⟨h0, h1⟩, h3⟩ := hp
  refine wp_region_any hm (any_of_S (S := S) _ _ _ _ ?_)
  exact tree_sound (P := P) (S := S) h0 (Region.noSelect_spec h1) (fun _ _ _ _ _ h => h) _ t _ a w.drew h3 h
theorem tree_quiet {l : List Oper} {n : Nat} {o : Oper} {t : Tree} {a : Act} {w : World} {v : Value} (ho : l.getD n default = o) (hg : o.guard = none) (hy : ∀ w', S w' → (execOp a.eval o).run P w' = .ok (.value v) w') (hS : S w)
    (h : wpTree P l Q S t (a.put o.dst v) w) : wpTree P l Q S (.take n t) a w := by
  subst ho
  exact ⟨v, .inl ⟨by unfold Region.wanted; rw [hg], hy⟩, hS, h⟩
theorem loud_of {l : List Oper} {n : Nat} {o : Oper} {t : Tree} {a : Act} {w : World} (ho : l.getD n default = o) (hg : Region.wanted o (yielded l.toArray a.tmps) = true)
    (h : ∀ K : Act → World → Prop, (∀ a' w', (sink l.toArray n = false → S w') → wpTree P l Q S t a' w' → K a' w') → o.wp P a w K Q) : stepLoud P l.toArray Q S n (l.getD n default) (wpTree P l Q S t) a w := by
  subst ho
  unfold stepLoud
  rw [if_pos hg]
  exact h _ fun a' w' h1 h2 => ⟨h1, h2⟩
theorem tree_one {l : List Oper} {n : Nat} {o : Oper} {t : Tree} {a : Act} {w : World} (ho : l.getD n default = o) (hg : Region.wanted o (yielded l.toArray a.tmps) = true)
    (h : ∀ K : Act → World → Prop, (∀ a' w', (sink l.toArray n = false → S w') → wpTree P l Q S t a' w' → K a' w') → o.wp P a w K Q) : wpTree P l Q S (.one n t) a w := loud_of ho hg h
theorem tree_fork {l : List Oper} {n m : Nat} {o o' : Oper} {t u : Tree} {a : Act} {w : World} (ho : l.getD n default = o) (hg : Region.wanted o (yielded l.toArray a.tmps) = true) (ho' : l.getD m default = o') (hg' : Region.wanted o' (yielded l.toArray a.tmps) = true)
    (h : ∀ K : Act → World → Prop, (∀ a' w', (sink l.toArray n = false → S w') → wpTree P l Q S t a' w' → K a' w') → o.wp P a w K Q)
    (h' : ∀ K : Act → World → Prop, (∀ a' w', (sink l.toArray m = false → S w') → wpTree P l Q S u a' w' → K a' w') → o'.wp P a w K Q) : wpTree P l Q S (.fork n t m u) a w :=
  ⟨loud_of ho hg h, loud_of ho' hg' h'⟩
theorem tree_leaf {l : List Oper} {a : Act} {w : World} (h : Q .normal a w) : wpTree P l (NoPanic Q) S .leaf a w := NoPanic.normal h
end
end Go.Proofs.YtcmjdepjckhpdaaDoor.Rd
namespace Go.Proofs.YtcmjdepjckhpdaaDoor.So
open Go Go.RowKit Kt Kg Wr Lw Sha Dk Dg

theorem conv_id (s : List UInt8) (w : World) : ∃ cap ob, (convert 41 38 (.string ⟨s.toArray⟩)).run Tryd.prog w = .ok (.slice (some ⟨w.heap.size, 0, none⟩) s.length cap) (w.drew.alloc ob) ∧ Sl (w.drew.alloc ob) (fun _ => True) (some ⟨w.heap.size, 0, none⟩) cap s := by
  refine ⟨_, _, run_bytes_of_string w 41 38 5 ⟨s.toArray⟩ Tryd.underlying41 Tryd.underlying38 Tryd.underlying5, ?_, fun hn => ⟨_, 0, rfl, trivial, fun j hj => ?_⟩⟩
  · have := grownCap_ge w (ByteArray.size ⟨s.toArray⟩) 0 5
    simpa [ByteArray.size] using this
  · rw [Nat.zero_add, cell_of_row _ w.heap.size j _ _ _ (heap_alloc_new w.drew _), bytesRow_at _ _ _ (by simpa using hj)]
    simp [List.getElem?_eq_getElem hj]
theorem own_based {w : World} {B B' : Nat} {E : TypeId} {v : Value} {l : List UInt8} (h : Own w B E v l) (hb : B' ≤ B) : Own w B' E v l :=
  ⟨h.1, h.2.imp id fun ⟨g, cap, cur, hv, h1, h2⟩ => ⟨g, cap, cur, hv, Nat.le_trans hb h1, h2⟩⟩
theorem front_txt (l : List UInt8) (k : Nat) : (ByteArray.mk l.toArray).extract 0 k = ⟨(l.take k).toArray⟩ := by
  apply ByteArray.ext
  simp
set_option maxHeartbeats 4000000 in
set_option maxRecDepth 100000 in
theorem rrecord_any (b : Bs) (A : Option Addr) (c : Nat) (Pb : Nat → Prop) (w : World) (hs : Sl w Pb A c b) (hb : b.length ≤ 131072) (hT : TabR w) :
    Calls Tryd.prog 41 #[.slice A b.length c] w fun y w' => ∃ v, y = .returned v ∧ Own w' w.heap.size tU8 v (record b) ∧ Below w.heap.size w w' := by
  have HOf := hide (rof_any b A c Pb w hs (by omega) hT)
  have Hs := hide hs.bound
  have HTx := hide (fun (wz : World) (h : Sl wz (fun z => Pb z ∧ z < w.heap.size) A c b) => rtext_any [] b none A 0 c (fun _ => True) _ wz (Sl.nil _ _ _ _) h (by simp; omega))
  simp only [List.length_nil, List.nil_append] at HTx
  have hlen := hide (form_short b.length 10 (by omega) (by omega))
  obtain ⟨N, hN⟩ : ∃ N, N = b.length := ⟨_, rfl⟩
  have HN := hide hN
  obtain ⟨F, hF⟩ : ∃ F, F = form b.length ++ b := ⟨_, rfl⟩
  have Hrec := hide (show F ++ (sha b).take 4 = record b by rw [hF]; rfl)
  have HFl := hide (show F.length + ((sha b).take 4).length ≤ 70368744177664 by rw [hF, sum_len, List.length_append]; have := hlen.out; omega)
  obtain ⟨sb, hsb⟩ : ∃ sb, sb = (sha b).take 4 := ⟨_, rfl⟩
  obtain ⟨id, hid⟩ : ∃ id, id = sha b := ⟨_, rfl⟩
  have hid32 : id.length = 32 := by rw [hid]; exact sha_len b
  have hcut := front_txt id 4
  rw [← hF, ← hN] at HTx
  rw [← hid, ← hN] at HOf
  rw [← hsb] at Hrec HFl
  rw [← hN]
  rw [hid] at hcut
  rw [← hsb, ← hid] at hcut
  have hsz : ByteArray.size ⟨id.toArray⟩ = 32 := by simpa [ByteArray.size] using hid32
  clear hs hb hT hN hF hlen hsb hid
  go_enter Tryd.func41, Tryd.ntmps41
  go_wp2_with fail
  refine HOf.out.mono ?_
  rintro y w1 ⟨rfl, hb1⟩
  have HB1 := hide hb1
  have Hs1 := hide (Hs.out.move (w' := w1) fun z hz _ => hb1.block z hz.2)
  clear hb1 HOf Hs
  go_wp2
  refine Rd.wp_region_tree (fun _ => True) (.take 0 (.take 2 (.take 3 (.fork 1 (.one 4 (.one 5 (.take 6 .leaf))) 4 (.one 1 (.one 5 (.take 6 .leaf))))))) (by kernel_rfl) (by kernel_rfl) ?_
  iterate 2 (refine Rd.tree_quiet rfl (v := ?_) rfl (fun w' hS => ?_) trivial ?_; rotate_left; (clear hS; go_simp; with_reducible rfl); simp only [Act.put, List.setIfInBounds_toArray])
  refine Rd.tree_quiet rfl (v := .string ⟨sb.toArray⟩) rfl (fun w' hS => ?_) trivial ?_
  · clear hS
    have hil : id.length = 32 := hid32
    go_simp
  simp only [Act.put]
  have hcv := fun wz => conv_id sb wz
  have HCv := hide hcv
  clear hcv
  refine Rd.tree_fork rfl (by rfl) rfl (by rfl) (fun K hK => ?_) (fun K hK => ?_)
  · go_simp
    refine (HTx.out w1.drew Hs1.out).mono ?_
    rintro y w2 ⟨v2, rfl, hown2, hb2⟩
    have HO2 := hide hown2
    have HZ2 := hide (show w1.heap.size ≤ w2.heap.size from hb2.size)
    have HBx := hide (show Below w1.heap.size w1 w2 from Below.trans (Below.refl w1.heap.size w1).drew hb2)
    have HB2 := hide (HB1.out.trans ((Below.trans (Below.refl w1.heap.size w1).drew hb2).mono HB1.out.size))
    clear hown2 hb2
    refine hK _ _ (fun _ => trivial) ?_
    clear hK K
    obtain ⟨cap, ob, hrun, hsl⟩ := HCv.out w2
    have Hsl := hide hsl
    clear hsl
    refine Rd.tree_one rfl (by rfl) (fun K hK => ?_)
    go_simp
    have HO3 := hide (show Own (w2.drew.alloc ob) w1.heap.size tU8 v2 F from Own.alloc (w := w2.drew) HO2.out ob)
    have HB3 := hide (HB2.out.drew.alloc (show w.heap.size ≤ w2.drew.heap.size from HB2.out.size) ob)
    refine hK _ _ (fun _ => trivial) ?_
    clear hK K hrun
    refine Rd.tree_one rfl (by rfl) (fun K hK => ?_)
    refine wp_cat (.tmp 7) (.tmp 10) tB rfl Tryd.underlying38 Wr.info8 w1.heap.size (w2.drew.alloc ob) v2 F sb _ _ cap rfl rfl HO3.out Hsl.out HFl.out (Below.refl _ _) (show w1.heap.size ≤ (w2.drew.alloc ob).heap.size by rw [World.size_alloc]; exact Nat.le_succ_of_le HZ2.out) ?_
    intro v' w3 hown3 hb3 _
    rw [Hrec.out] at hown3
    have HO4 := hide (own_based hown3 (show w.heap.size ≤ w1.heap.size from HB1.out.size))
    have HB4 := hide (HB1.out.trans ((show Below w1.heap.size w1 w3 from (Below.trans ((Below.trans (HBx.out) (Below.refl _ _).drew).alloc (show w1.heap.size ≤ w2.drew.heap.size from HZ2.out) ob) hb3)).mono HB1.out.size))
    refine hK _ _ (fun _ => trivial) ?_
    clear hK K hown3 hb3
    simp only [Act.put, List.getD_cons_zero, List.getD_cons_succ, List.setIfInBounds_toArray, List.set_cons_succ, List.set_cons_zero]
    refine Rd.tree_quiet rfl (v := v') rfl (fun w' hS => ?_) trivial ?_
    · clear hS
      go_simp
    simp only [Act.put, List.getD_cons_zero, List.getD_cons_succ, List.setIfInBounds_toArray, List.set_cons_succ, List.set_cons_zero]
    refine Rd.tree_leaf ?_
    go_wp2
    go_ret
    exact ⟨_, rfl, HO4.out, HB4.out⟩
  · obtain ⟨cap, ob, hrun, hsl⟩ := HCv.out w1.drew
    have Hsl := hide hsl.bound
    clear hsl
    go_simp
    have HBa := hide (show Below w1.heap.size w1 (w1.drew.drew.alloc ob) from (Below.refl w1.heap.size w1).drew.drew.alloc (Nat.le_refl _) ob)
    refine hK _ _ (fun _ => trivial) ?_
    clear hK K hrun
    refine Rd.tree_one rfl (by rfl) (fun K hK => ?_)
    go_simp
    refine (HTx.out (w1.drew.drew.alloc ob) (Hs1.out.move fun z hz _ => Below.heap_alloc _ ob z (Nat.lt_of_lt_of_le hz.2 HB1.out.size))).mono ?_
    rintro y w2 ⟨v2, rfl, hown2, hb2⟩
    have HO2 := hide (own_based hown2 (show w1.heap.size ≤ (w1.drew.drew.alloc ob).heap.size from HBa.out.size))
    have HBx := hide (show Below w1.heap.size w1 w2 from HBa.out.trans (hb2.mono HBa.out.size))
    have Hsl2 := hide (Hsl.out.move (w' := w2) fun z hz _ => hb2.block z hz.2)
    clear hown2 hb2 Hsl
    refine hK _ _ (fun _ => trivial) ?_
    clear hK K
    refine Rd.tree_one rfl (by rfl) (fun K hK => ?_)
    refine wp_cat (.tmp 7) (.tmp 10) tB rfl Tryd.underlying38 Wr.info8 w1.heap.size w2 v2 F sb _ _ cap rfl rfl HO2.out Hsl2.out HFl.out (Below.refl _ _) HBx.out.size ?_
    intro v' w3 hown3 hb3 _
    rw [Hrec.out] at hown3
    have HO4 := hide (own_based hown3 (show w.heap.size ≤ w1.heap.size from HB1.out.size))
    have HB4 := hide (HB1.out.trans ((HBx.out.trans hb3).mono HB1.out.size))
    refine hK _ _ (fun _ => trivial) ?_
    clear hK K hown3 hb3
    simp only [Act.put, List.getD_cons_zero, List.getD_cons_succ, List.setIfInBounds_toArray, List.set_cons_succ, List.set_cons_zero]
    refine Rd.tree_quiet rfl (v := v') rfl (fun w' hS => ?_) trivial ?_
    · clear hS
      go_simp
    simp only [Act.put, List.getD_cons_zero, List.getD_cons_succ, List.setIfInBounds_toArray, List.set_cons_succ, List.set_cons_zero]
    refine Rd.tree_leaf ?_
    go_wp2
    go_ret
    exact ⟨_, rfl, HO4.out, HB4.out⟩
end Go.Proofs.YtcmjdepjckhpdaaDoor.So
namespace Go.Proofs.YtcmjdepjckhpdaaDoor.So
open Go Go.RowKit Kt Kg Wr Lw Sha Dk Dg

def rput14 (r : Rt) (L : List Bs) (b : Bs) : (Rt × List Bs) × Bs × Nat :=
  if 131072 < b.length then ((r, L), [], 4)
  else if sha b ∈ L.map sha then ((r, L), sha b, 0)
  else if (rput r (record b)).2 = 0 then (((rput r (record b)).1, L ++ [b]), sha b, 0)
  else (((rput r (record b)).1, L), [], (rput r (record b)).2)
theorem tabR_keep {w w' : World} (h : TabR w) (hb : Below w.heap.size w w') : TabR w' := by
  intro i hi
  have := h i hi
  exact (World.cell?_of_block (hb.block _ (World.block_lt_of_cell? w _ this))).trans this
theorem infoId : (Tryd.prog.info? tId).map (fun i => (i.zero, i.size, i.bytes)) = some (some (.string ⟨#[]⟩), 1, 16) := by kernel_rfl
theorem infoS : (Tryd.prog.info? tS).map (fun i => (i.zero, i.size, i.bytes)) = some (some (.string ⟨#[]⟩), 1, 16) := by kernel_rfl
/-- append of one text: where the row lies then -/
theorem wp_pushT2 {P : Program} {o : Oper} {a : Act} {K : Act → World → Prop} {Q : Exit → Act → World → Prop} {W : World} {E : TypeId} (s x : Operand) (t : TypeId)
    (ho : o.op = .call { callee := .builtin .append, args := #[s, x], argTypes := #[t, t] })
    (ht : P.underlying t = some (.slice E)) (hi : (P.info? E).map (fun i => (i.zero, i.size, i.bytes)) = some (some (.string ⟨#[]⟩), 1, 16))
    (S : Nat → Prop) (v : Value) (l : List Bs) (e : Bs) (cs : Array Value) (hs : a.eval s = v) (hx : a.eval x = .slice (some ⟨W.heap.size, 0, none⟩) 1 1) (hc : cs = #[.string ⟨e.toArray⟩])
    (hown : OTS W S E v l) (hlen : l.length + 1 ≤ 1000000000)
    (h : ∀ g cap w', OTS w' (fun k => S k ∨ W.heap.size ≤ k) E (.slice (some ⟨g, 0, none⟩) (l.length + 1) cap) (l ++ [e]) → W.grownBy w' v.ownBlock → K (a.put o.dst (.slice (some ⟨g, 0, none⟩) (l.length + 1) cap)) w') : o.wp P a (W.alloc (.cells cs E)) K Q := by
  obtain ⟨i0, hi0, hz0, hz1, hz2⟩ := info_parts hi
  subst hc
  refine wp_append_lies _ s x t ho 0 E i0 (.string ⟨#[]⟩) 1 16 ht hi0 hz0 hz1 hz2 rfl (by omega) v l.length (texts l) hs (World.ownsRow.alloc hown.1 _)
    ⟨W.heap.size, 0, none⟩ 1 1 (texts [e]) hx (by simp [texts]) (fun j u hu => ?_) (texts_one [e]) (by omega) (by unfold maxLen; omega) (by omega) (Nat.zero_le _) _ rfl (fun g cap w' h1 h2 h3 h4 => ?_)
  · rw [Addr.add_mid, (Row.fresh W E #[.string ⟨e.toArray⟩]).cell]
    simpa [texts] using hu
  · refine h g cap w' ⟨?_, fun g' hg' => ?_⟩ (grownBy_back _ h2)
    · unfold OwT
      rw [List.length_append, texts_append]
      exact h1
    · obtain rfl : g = g' := by simpa [Value.ownBlock] using hg'
      exact h3.elim (fun e => .inl (hown.2 g e)) fun e => .inr (by rw [e, World.size_alloc]; exact Nat.le_succ _)
theorem wpList_pushT2 {P : Program} {ops : Array Oper} {rest : List Oper} {o : Oper} {a : Act} {Q : Exit → Act → World → Prop} {W : World} {E : TypeId} (hgd : o.guard = none) (s x : Operand) (t : TypeId)
    (ho : o.op = .call { callee := .builtin .append, args := #[s, x], argTypes := #[t, t] })
    (ht : P.underlying t = some (.slice E)) (hi : (P.info? E).map (fun i => (i.zero, i.size, i.bytes)) = some (some (.string ⟨#[]⟩), 1, 16))
    (S : Nat → Prop) (v : Value) (l : List Bs) (e : Bs) (cs : Array Value) (hs : a.eval s = v) (hx : a.eval x = .slice (some ⟨W.heap.size, 0, none⟩) 1 1) (hc : cs = #[.string ⟨e.toArray⟩])
    (hown : OTS W S E v l) (hlen : l.length + 1 ≤ 1000000000)
    (h : ∀ g cap w', OTS w' (fun k => S k ∨ W.heap.size ≤ k) E (.slice (some ⟨g, 0, none⟩) (l.length + 1) cap) (l ++ [e]) → W.grownBy w' v.ownBlock → wpList P ops Q rest (a.put o.dst (.slice (some ⟨g, 0, none⟩) (l.length + 1) cap)) w') : wpList P ops Q (o :: rest) a (W.alloc (.cells cs E)) :=
  wpList_plain hgd fun _ hK => wp_pushT2 s x t ho ht hi S v l e cs hs hx hc hown hlen fun g cap w' h1 h2 => hK _ _ (h g cap w' h1 h2)
theorem ots_ne {w : World} {S T : Nat → Prop} {E E' : TypeId} {v u : Value} {l m : List Bs} (h : OTS w S E v l) (h' : OTS w T E' u m) (hne : E ≠ E') : ∀ g, v.ownBlock = some g → u.ownBlock ≠ some g := by
  intro g hg hg'
  rcases h.1.2 with ⟨rfl, _⟩ | ⟨g1, cap, cur, rfl, _, hh, _⟩
  · cases hg
  · rcases h'.1.2 with ⟨rfl, _⟩ | ⟨g2, cap2, cur2, rfl, _, hh2, _⟩
    · cases hg'
    · obtain rfl : g1 = g := by simpa [Value.ownBlock] using hg
      obtain rfl : g2 = g1 := by simpa [Value.ownBlock] using hg'
      rw [hh] at hh2
      simp only [Option.some.injEq, Obj.cells.injEq] at hh2
      exact hne hh2.2.1
theorem sl_text {w : World} {P : Nat → Prop} {A : Option Addr} {c n : Nat} {l : List UInt8} (h : Sl w P A c l) (hn : n = l.length) : (convert 38 9 (.slice A n c)).run Tryd.prog w = .ok (.string ⟨l.toArray⟩) w := by
  subst hn
  by_cases h0 : l = []
  · subst h0
    rw [run_convert_bytes_string w 38 9 5 A _ c Tryd.underlying38 Tryd.underlying5 Tryd.underlying9]
    cases A <;> rfl
  · have hn : 0 < l.length := List.length_pos_iff.2 h0
    obtain ⟨b, o, rfl, _, hc⟩ := h.2 hn
    exact run_convert_bytes_back w 38 9 5 ⟨b, o, none⟩ c l Tryd.underlying38 Tryd.underlying5 Tryd.underlying9 (fun j hj => by rw [Addr.add_mid, hc j hj]; simp [List.getElem?_eq_getElem hj])
abbrev mor (S : Nat → Prop) (w w' : World) : Nat → Prop := fun k => (S k ∨ w.heap.size ≤ k) ∧ k < w'.heap.size
/-- one of the store's two rows has grown -/
theorem rs_grown {w w5 : World} {S : Nat → Prop} {gs j : Nat} {E E' : TypeId} {vi va v5 : Value} {l l' m : List Bs} {cs : List Value} (hr : Row w gs tSt cs) (hi : OTS w (fun b => S b ∧ b ≠ gs) E vi l) (ha : OTS w (fun b => S b ∧ b ≠ gs) E' va m) (hne : E ≠ E') (hgs : S gs) (hbd : ∀ k, S k → k < w.heap.size)
    (hg : w.grownBy w5 vi.ownBlock) (h5 : OTS w5 (fun k => (S k ∧ k ≠ gs) ∨ w.heap.size ≤ k) E v5 l') :
    Row w5 gs tSt cs ∧ Row (w5.setCell ⟨gs, j, none⟩ v5) gs tSt (cs.set j v5) ∧ OTS (w5.setCell ⟨gs, j, none⟩ v5) (fun b => mor S w w5 b ∧ b ≠ gs) E v5 l' ∧ OTS (w5.setCell ⟨gs, j, none⟩ v5) (fun b => mor S w w5 b ∧ b ≠ gs) E' va m ∧ mor S w w5 gs ∧ (∀ k, mor S w w5 k → k < (w5.setCell ⟨gs, j, none⟩ v5).heap.size) ∧ Oth S w (w5.setCell ⟨gs, j, none⟩ v5) := by
  have hlt := hbd gs hgs
  have hr5 := hr.grown hg (fun e => (hi.2 gs e.symm).2 rfl)
  have hsz : (w5.setCell ⟨gs, j, none⟩ v5).heap.size = w5.heap.size := by simp [World.setCell]
  refine ⟨hr5, hr5.put j v5, ?_, ?_, ⟨.inl hgs, Nat.lt_of_lt_of_le hlt hg.size⟩, fun k hk => lt_drew hsz hk.2, ?_⟩
  · refine (h5.imp (T := fun b => mor S w w5 b ∧ b ≠ gs) fun b hb hS => hS.elim (fun x => ⟨⟨.inl x.1, hb⟩, x.2⟩) fun x => ⟨⟨.inr x, hb⟩, by omega⟩).move fun b hb _ => Below.heap_setCell w5 ⟨gs, j, none⟩ _ b hb.2
  · have hva : ∀ b, va.ownBlock = some b → w5.heap[b]? = w.heap[b]? := fun b hb => hg.block b (ha.lt hb) fun e => ots_ne hi ha hne b e.symm hb
    have h1 : OTS w5 (fun b => mor S w w5 b ∧ b ≠ gs) E' va m := by
      refine ⟨⟨ha.1.1, ?_⟩, fun b hb => ⟨⟨.inl (ha.2 b hb).1, Nat.lt_of_lt_of_le (ha.lt hb) hg.size⟩, (ha.2 b hb).2⟩⟩
      rcases ha.1.2 with h1 | ⟨g, cap, cur, hv, q1, q2, q3⟩
      · exact .inl h1
      · exact .inr ⟨g, cap, cur, hv, q1, (hva g (by rw [hv]; rfl)).trans q2, q3⟩
    exact h1.move fun b hb _ => Below.heap_setCell w5 ⟨gs, j, none⟩ _ b hb.2
  · exact (Oth.of_grown (S := S) hg fun b e => (hi.2 b e).1).put (g := gs) (i := j) (.inl hgs) v5
/-- what both are behind a Put -/
def Kept (w : World) (S Sd : Nat → Prop) (gs gd : Nat) (r : Rt) (L : List Bs) (w' : World) : Prop :=
  ∃ S' Sd', RsIn w' S' gs gd L ∧ RtIn w' Sd' gd r ∧ Oth (fun k => S k ∨ Sd k) w w' ∧ (∀ k, S' k → S k ∨ w.heap.size ≤ k) ∧ (∀ k, Sd' k → Sd k ∨ w.heap.size ≤ k) ∧ ∀ k, S' k → ¬ Sd' k
set_option maxHeartbeats 4000000 in
set_option maxRecDepth 100000 in
theorem rput14_no {w : World} {S Sd : Nat → Prop} {gs gd : Nat} {r : Rt} {L : List Bs} (h : RsIn w S gs gd L) (hd : RtIn w Sd gd r) (hap : ∀ k, S k → ¬ Sd k) (b : Bs) (A : Option Addr) (c : Nat) (Pb : Nat → Prop) (hs : Sl w Pb A c b) (hl : L.length ≤ 1000000) (hT : TabR w)
    (hn : 131072 < b.length ∨ sha b ∈ L.map sha) :
    Calls Tryd.prog 16 #[.pointer (some ⟨gs, 0, none⟩), .slice A b.length c] w fun y w' => y = .returned (.tuple #[.string ⟨(rput14 r L b).2.1.toArray⟩, .int .i64 ((rput14 r L b).2.2 : Int)]) ∧ Kept w S Sd gs gd (rput14 r L b).1.1 (rput14 r L b).1.2 w' := by
  have HK := hide (fun (wz : World) (hz : Below w.heap.size w wz) => show Kept w S Sd gs gd r L wz from ⟨S, Sd, h.below hz, hd.below hz, Oth.of_below _ hz, fun k hk => .inl hk, fun k hk => .inl hk, hap⟩)
  by_cases h1 : 131072 < b.length
  · have HR := hide (show rput14 r L b = ((r, L), [], 4) from if_pos h1)
    obtain ⟨N, hN⟩ : ∃ N, N = b.length := ⟨_, rfl⟩
    rw [← hN] at h1 ⊢
    have d1 : decide (131072 < N) = true := decide_eq_true h1
    clear hN hs hn
    go_enter Tryd.func16, Tryd.ntmps16
    go_wp2
    refine bodyPost_ret (results_tmp2 rfl _ _ _) rfl ?_
    rw [HR.out]
    exact ⟨rfl, HK.out _ (Below.refl _ _)⟩
  · have h2 := hn.resolve_left h1
    have HR := hide (show rput14 r L b = ((r, L), sha b, 0) by unfold rput14; rw [if_neg h1, if_pos h2])
    have HOf := hide (rof_any b A c Pb w hs (by omega) hT)
    have HHas := hide (fun (wz : World) (hz : Below w.heap.size w wz) => rhas_any (h.below hz) (sha b) hl)
    rw [decide_eq_true h2] at HHas
    obtain ⟨N, hN⟩ : ∃ N, N = b.length := ⟨_, rfl⟩
    rw [← hN] at h1 HOf ⊢
    have d1 : decide (131072 < N) = false := decide_eq_false h1
    obtain ⟨id, hid⟩ : ∃ id, id = sha b := ⟨_, rfl⟩
    rw [← hid] at HOf HHas HR
    clear hN hs hn h2 hid
    go_enter Tryd.func16, Tryd.ntmps16
    go_wp2_with fail
    refine HOf.out.mono ?_
    rintro y w1 ⟨rfl, hb1⟩
    have HB1 := hide hb1
    clear hb1
    go_wp2_with fail
    refine (HHas.out w1 HB1.out).mono ?_
    rintro y w2 ⟨rfl, hb2⟩
    have HB2 := hide (HB1.out.trans (hb2.mono HB1.out.size))
    clear hb2
    go_wp2
    refine bodyPost_ret (results_tmp2 rfl _ _ _) rfl ?_
    rw [HR.out]
    exact ⟨rfl, HK.out _ HB2.out⟩
set_option maxHeartbeats 4000000 in
set_option maxRecDepth 100000 in
theorem rput14_yes {w : World} {S Sd : Nat → Prop} {gs gd : Nat} {r : Rt} {L : List Bs} (h : RsIn w S gs gd L) (hd : RtIn w Sd gd r) (hf : r.fit) (hap : ∀ k, S k → ¬ Sd k) (b : Bs) (A : Option Addr) (c : Nat) (Pb : Nat → Prop) (hs : Sl w Pb A c b) (hP : ∀ k, Pb k → ¬ S k ∧ ¬ Sd k) (hl : L.length ≤ 1000000) (hT : TabR w)
    (h1 : ¬ 131072 < b.length) (h2 : ¬ sha b ∈ L.map sha) :
    Calls Tryd.prog 16 #[.pointer (some ⟨gs, 0, none⟩), .slice A b.length c] w fun y w' => y = .returned (.tuple #[.string ⟨(rput14 r L b).2.1.toArray⟩, .int .i64 ((rput14 r L b).2.2 : Int)]) ∧ Kept w S Sd gs gd (rput14 r L b).1.1 (rput14 r L b).1.2 w' := by
  have HOf := hide (rof_any b A c Pb w hs (by omega) hT)
  have HHas := hide (fun (wz : World) (hz : Below w.heap.size w wz) => rhas_any (h.below hz) (sha b) hl)
  rw [decide_eq_false h2] at HHas
  have HRec := hide (fun (wz : World) (hz : Below w.heap.size w wz) => rrecord_any b A c (fun k => Pb k ∧ k < w.heap.size) wz (hs.bound.move fun k hk _ => hz.block k hk.2) (by omega) (tabR_keep hT hz))
  have hrl := record_len b
  have hf10 := form_short b.length 10 (by omega) (by omega)
  have HPut := hide (fun (wz : World) (hz : Below w.heap.size w wz) (A' : Option Addr) (c' : Nat) (hsl : Sl wz (fun k => w.heap.size ≤ k) A' c' (record b)) => rput_any (hd.below hz) hf (record b) A' c' _ hsl (fun k hk hS => by have := hd.lt k hS; omega) (by omega))
  have HRy := hide (fun (e : (rput r (record b)).2 = 0) => show rput14 r L b = (((rput r (record b)).1, L ++ [b]), sha b, 0) by unfold rput14; rw [if_neg h1, if_neg h2, if_pos e])
  have HRn := hide (fun (e : ¬ (rput r (record b)).2 = 0) => show rput14 r L b = (((rput r (record b)).1, L), [], (rput r (record b)).2) by unfold rput14; rw [if_neg h1, if_neg h2, if_neg e])
  have H := hide h
  have Hd := hide hd
  have Hap := hide hap
  have Hs := hide hs.bound
  have HP := hide hP
  have Hlen := hide hl
  obtain ⟨N, hN⟩ : ∃ N, N = b.length := ⟨_, rfl⟩
  have HN := hide hN
  rw [← hN] at h1 HOf HRec ⊢
  have d1 : decide (131072 < N) = false := decide_eq_false h1
  obtain ⟨id, hid⟩ : ∃ id, id = sha b := ⟨_, rfl⟩
  have HId := hide hid
  rw [← hid] at HOf HHas HRy
  obtain ⟨R, hR⟩ : ∃ R, R = (record b).length := ⟨_, rfl⟩
  have HRl := hide hR
  clear hN hs h2 hid h hd hap hP hl hrl hf10 hT hR
  go_enter Tryd.func16, Tryd.ntmps16
  go_wp2_with fail
  refine HOf.out.mono ?_
  rintro y w1 ⟨rfl, hb1⟩
  have HB1 := hide hb1
  clear hb1 HOf
  go_wp2_with fail
  refine (HHas.out w1 HB1.out).mono ?_
  rintro y w2 ⟨rfl, hb2⟩
  have HB2 := hide (HB1.out.trans (hb2.mono HB1.out.size))
  clear hb2 HHas HB1
  have HC := hide (fun (wz : World) (hz : Below w.heap.size w wz) => show wz.cell? ⟨gs, 0, none⟩ = some (.pointer (some ⟨gd, 0, none⟩)) from by
    obtain ⟨vi, va, hr, _⟩ := H.out.below hz
    exact hr.cell 0)
  have c0 := HC.out w2 HB2.out
  go_wp2
  refine Rg.wp_region_ord (fun w' => w'.cell? ⟨gs, 0, none⟩ = some (.pointer (some ⟨gd, 0, none⟩)) ∧ True) [(0, true), (1, true), (2, true), (3, true), (4, true), (5, false), (6, false), (7, true)] (by kernel_rfl) (by kernel_rfl) ?_
  simp only [Rg.pick, List.map_cons, List.map_nil, List.getD_cons_zero, List.getD_cons_succ]
  iterate 5 (refine Rg.ord_quiet (v := ?_) rfl (fun w' hS => ?_) ⟨c0, trivial⟩ ?_; rotate_left; (obtain ⟨s1, _⟩ := hS; go_simp; with_reducible rfl); simp only [Act.put, List.setIfInBounds_toArray, List.set_cons_succ, List.set_cons_zero])
  refine Rg.ord_loud rfl (fun K hK => ?_)
  go_simp
  refine (HRec.out w2.drew HB2.out.drew).mono ?_
  rintro y w3 ⟨v3, rfl, hown3, hb3⟩
  have HB3 := hide ((show Below w.heap.size w w2.drew from HB2.out.drew).trans (hb3.mono HB2.out.size))
  obtain ⟨A3, c3, rfl, hs3⟩ := hown3.sl
  have Hs3 := hide (hs3.imp (Q := fun k => w.heap.size ≤ k) fun k _ hk => Nat.le_trans (show w.heap.size ≤ w2.drew.heap.size from HB2.out.size) hk.1)
  rw [← HRl.out]
  have c0' := HC.out w3 HB3.out
  have HPt := hide (HPut.out w3 HB3.out A3 c3 Hs3.out)
  rw [← HRl.out] at HPt
  clear hown3 hb3 hs3 HB2 HRec
  refine hK _ _ (fun _ => ⟨c0', trivial⟩) ?_
  clear hK K c0
  refine Rg.ord_loud rfl (fun K hK => ?_)
  go_simp
  refine HPt.out.mono ?_
  rintro y w4 ⟨rfl, Sd4, hd4, hO4, hS4⟩
  have Hd4 := hide hd4
  have HO4 := hide hO4
  have HS4 := hide hS4
  have H4 := hide ((H.out.below HB3.out).oth hO4 Hap.out)
  have HOa := hide (show Oth Sd w w4 from (Oth.of_below Sd HB3.out).trans hO4 fun _ _ x => x)
  have HS4w := hide (show ∀ k, Sd4 k → Sd k ∨ w.heap.size ≤ k from fun k hk => (hS4 k hk).imp (fun z => z) fun x => Nat.le_trans HB3.out.size x)
  have HAp4 := hide (show ∀ k, S k → ¬ Sd4 k from fun k h1 h2 => (HS4w.out k h2).elim (Hap.out k h1) fun x => by have := H.out.lt k h1; omega)
  have Hs4 := hide (Hs.out.move (w' := w4) fun k hk _ => HOa.out.block k hk.2 (HP.out k hk.1).2)
  have c4 : w4.cell? ⟨gs, 0, none⟩ = some (.pointer (some ⟨gd, 0, none⟩)) := by
    obtain ⟨vi, va, hr, _⟩ := H4.out
    exact hr.cell 0
  clear hd4 hO4 hS4 HPt HPut HC c0' Hs3 Hd HO4 HS4
  refine hK _ _ (fun _ => ⟨c4, trivial⟩) ?_
  clear hK K
  iterate 1 (refine Rg.ord_quiet (v := ?_) rfl (fun w' hS => ?_) ⟨c4, trivial⟩ ?_; rotate_left; (obtain ⟨s1, _⟩ := hS; go_simp; with_reducible rfl); simp only [Act.put, List.setIfInBounds_toArray, List.set_cons_succ, List.set_cons_zero])
  refine Rg.ord_nil ?_
  clear c4
  generalize hres : rput r (record b) = RES at *
  by_cases he : RES.2 = 0
  · have HR := hide (HRy.out he)
    have hz : ((RES.2 : Int) != 0) = false := by rw [bne_eq_false_iff_eq]; omega
    obtain ⟨vi, va, hr, hi, ha, hgs, hbd⟩ := H4.out
    obtain ⟨Ai, ci, rfl, _⟩ := hi.vs
    obtain ⟨Aa, ca, rfl, _⟩ := ha.vs
    rw [List.length_map] at hr hi
    obtain ⟨NL, hNL⟩ : ∃ NL, NL = L.length := ⟨_, rfl⟩
    rw [← hNL] at hr hi ha
    have k1 := hr.cell 1
    have f1 := hr.free 1
    simp only [List.getElem?_cons_zero, List.getElem?_cons_succ] at k1
    have k1a : ∀ o, (w4.alloc o).cell? ⟨gs, 1, none⟩ = some (.slice Ai NL ci) := fun o => (hr.alloc o).cell 1
    have HRw := hide hr
    have Hi := hide hi
    have Ha := hide ha
    have Hgs := hide hgs
    have Hbd := hide hbd
    have HNL := hide hNL
    clear hr hi ha hgs hbd hNL he H4
    obtain ⟨ids, hids⟩ : ∃ ids, ids = L.map sha := ⟨_, rfl⟩
    have HIds := hide hids
    rw [← hids] at Hi
    have Hil := hide (show ids.length + 1 ≤ 1000000000 by have := Hlen.out; rw [hids, List.length_map]; omega)
    have Hall := hide (show L.length + 1 ≤ 1000000000 by have := Hlen.out; omega)
    clear hids
    go_wp2_with (at_builtin; go_loud (refine wpList_pushT2 rfl (.tmp 33) (.tmp 35) tIds rfl Tryd.underlying50 infoId (fun b => S b ∧ b ≠ gs) (.slice Ai NL ci) ids id _ rfl rfl rfl Hi.out Hil.out ?_; intro g5 cap5 w5 hown5 hg5; have HG5 := hide (rs_grown (j := 1) HRw.out Hi.out Ha.out (by decide) Hgs.out Hbd.out hg5 hown5); have k15 := HG5.out.1.cell 1; have f15 := HG5.out.1.free 1; simp only [List.getElem?_cons_zero, List.getElem?_cons_succ] at k15; have HGr := hide hg5.size; clear hown5 hg5 k1 k1a f1))
    obtain ⟨w6, hw6⟩ : ∃ z, z = w5.setCell ⟨gs, 1, none⟩ (.slice (some ⟨g5, 0, none⟩) (ids.length + 1) cap5) := ⟨_, rfl⟩
    obtain ⟨v5, hv5⟩ : ∃ z, z = Value.slice (some ⟨g5, 0, none⟩) (ids.length + 1) cap5 := ⟨_, rfl⟩
    have hsz6 : w6.heap.size = w5.heap.size := by rw [hw6]; simp [World.setCell]
    have hg5 := HG5.out
    rw [← hw6] at hg5 ⊢
    obtain ⟨_, q1, q2, q3, q4, q5, q6⟩ := hg5
    simp only [List.set_cons_zero, List.set_cons_succ] at q1
    have HR6 := hide q1
    have HI6 := hide q2
    have HA6 := hide q3
    have HS6 := hide q4
    have HL6 := hide q5
    have HO6 := hide q6
    have Hsz6 := hide hsz6
    have Hs6 := hide (Hs4.out.bound.move (w' := w6) fun k hk _ => q6.block k hk.2 (HP.out k hk.1.1).1)
    have hcv1 := sl_text (show Sl w6.drew _ A c b from Hs6.out) HN.out
    have k26 : w6.cell? ⟨gs, 2, none⟩ = some (.slice Aa NL ca) := q1.cell 2
    have f26 := q1.free 2
    clear q1 q2 q3 q4 q5 q6 hsz6 HG5 k15 f15 hw6
    rw [← hv5] at HR6 HI6
    refine Rg.wp_region_ord (fun w' => w'.cell? ⟨gs, 2, none⟩ = some (.slice Aa NL ca) ∧ True) [(0, true), (1, true), (2, true), (3, true), (4, true), (5, true), (6, false), (7, false), (8, false), (9, true), (10, true), (11, false)] (by kernel_rfl) (by kernel_rfl) ?_
    simp only [Rg.pick, List.map_cons, List.map_nil, List.getD_cons_zero, List.getD_cons_succ]
    iterate 6 (refine Rg.ord_quiet (v := ?_) rfl (fun w' hS => ?_) ⟨k26, trivial⟩ ?_; rotate_left; (obtain ⟨s1, _⟩ := hS; go_simp; with_reducible rfl); simp only [Act.put, List.setIfInBounds_toArray, List.set_cons_succ, List.set_cons_zero])
    refine Rg.ord_loud rfl (fun K hK => ?_)
    go_simp
    refine hK _ _ (fun _ => ⟨k26, trivial⟩) ?_
    clear hK K hcv1
    refine Rg.ord_loud rfl (fun K hK => ?_)
    go_simp
    have k27 : (w6.drew.alloc (.cells #[.string ⟨b.toArray⟩] tS)).cell? ⟨gs, 2, none⟩ = some (.slice Aa NL ca) := ((show Row w6.drew gs tSt _ from HR6.out).alloc _).cell 2
    refine hK _ _ (fun _ => ⟨k27, trivial⟩) ?_
    clear hK K
    refine Rg.ord_loud rfl (fun K hK => ?_)
    refine wp_pushT2 (.tmp 43) (.tmp 46) tSs rfl Tryd.underlying22 infoS (fun k => mor S w4 w5 k ∧ k ≠ gs) (.slice Aa NL ca) L b _ rfl rfl rfl (show OTS w6.drew _ tS (.slice Aa NL ca) L from HA6.out) Hall.out ?_
    intro g7 cap7 w7 hown7 hg7
    have hg8 := rs_grown (j := 2) (show Row w6.drew gs tSt _ from HR6.out) (show OTS w6.drew (fun k => mor S w4 w5 k ∧ k ≠ gs) tS (.slice Aa NL ca) L from HA6.out) (show OTS w6.drew (fun k => mor S w4 w5 k ∧ k ≠ gs) tId v5 (ids ++ [id]) from HI6.out) (by decide) HS6.out HL6.out hg7 hown7
    have k28 : w7.cell? ⟨gs, 2, none⟩ = some (.slice Aa NL ca) := hg8.1.cell 2
    have f28 := hg8.1.free 2
    have HG8 := hide hg8
    have HZ7 := hide hg7.size
    clear hown7 hg7 hg8 k26 k27 f26
    refine hK _ _ (fun _ => ⟨k28, trivial⟩) ?_
    clear hK K
    iterate 2 (refine Rg.ord_quiet (v := ?_) rfl (fun w' hS => ?_) ⟨k28, trivial⟩ ?_; rotate_left; (obtain ⟨s1, _⟩ := hS; go_simp; with_reducible rfl); simp only [Act.put, List.setIfInBounds_toArray, List.set_cons_succ, List.set_cons_zero])
    refine Rg.ord_loud rfl (fun K hK => ?_)
    go_simp
    obtain ⟨v7, hv7⟩ : ∃ z, z = Value.slice (some ⟨g7, 0, none⟩) (L.length + 1) cap7 := ⟨_, rfl⟩
    obtain ⟨w9, hw9⟩ : ∃ z, z = w7.setCell ⟨gs, 2, none⟩ (.slice (some ⟨g7, 0, none⟩) (L.length + 1) cap7) := ⟨_, rfl⟩
    have hg8 := HG8.out
    rw [← hv7] at hg8 hw9
    rw [← hw9] at hg8
    have hw9' : (w7.setCell ⟨gs, 2, none⟩ (.slice (some ⟨g7, 0, none⟩) (L.length + 1) cap7)) = w9 := by rw [hw9, hv7]
    obtain ⟨_, q1, q2, q3, q4, q5, q6⟩ := hg8
    have q7 : Oth (mor S w4 w5) w6 w9 := ⟨q6.os, q6.tape, q6.output, q6.size, q6.block⟩
    simp only [List.set_cons_zero, List.set_cons_succ] at q1
    have HE := hide (show Kept w S Sd gs gd RES.1 (L ++ [b]) w9 from by
      have h4 : ∀ k, mor (mor S w4 w5) w6.drew w7 k → S k ∨ w4.heap.size ≤ k := fun k hk => hk.1.elim (fun x => x.1) fun x => .inr (by
        have h1 : w6.heap.size ≤ k := x
        have h2 := Hsz6.out
        have h3 := HGr.out
        omega)
      have hw4 : w.heap.size ≤ w4.heap.size := HOa.out.size
      have hm6 : ∀ k, Sd4 k → ¬ S k := fun k h1 h2 => HAp4.out k h2 h1
      refine ⟨_, Sd4, ⟨v5, v7, q1, ?_, q2, q4, q5⟩, (Hd4.out.oth HO6.out hm6).oth q7 (fun k h1 h2 => h2.1.elim (hm6 k h1) fun x => by have := Hd4.out.lt k h1; omega), ?_, fun k hk => (h4 k hk).imp (fun z => z) fun x => by omega, HS4w.out, fun k hk h2 => (h4 k hk).elim (fun x => HAp4.out k x h2) fun x => by have := Hd4.out.lt k h2; omega⟩
      · rw [List.map_append, ← HIds.out, List.map_cons, List.map_nil, ← HId.out]
        exact q3
      · refine ((HOa.out.mono (T := fun k => S k ∨ Sd k) fun k _ h => .inr h).trans (HO6.out.mono (T := S) fun k _ h => h) fun i _ h => .inl h).trans q7 fun i hi h => ?_
        exact h.1.elim .inl fun x => by omega)
    clear q1 q2 q3 q4 q5 q6 q7 HG8 hv7 hw9 k28 f28
    rw [hw9']
    refine hK _ _ (fun hf => absurd (show Rg.sink _ 11 = true from by kernel_rfl) (by rw [hf]; decide)) ?_
    clear hK K
    refine Rg.ord_nil ?_
    go_wp2
    refine bodyPost_ret (results_tmp2 rfl _ _ _) rfl ?_
    rw [HR.out]
    exact ⟨rfl, HE.out⟩
  · have HR := hide (HRn.out he)
    have hz : ((RES.2 : Int) != 0) = true := by rw [bne_iff_ne]; omega
    clear he
    go_wp2
    refine bodyPost_ret (results_tmp2 rfl _ _ _) rfl ?_
    rw [HR.out]
    exact ⟨rfl, S, Sd4, H4.out, Hd4.out, HOa.out.mono fun k _ h => .inr h, fun k hk => .inl hk, HS4w.out, HAp4.out⟩
end Go.Proofs.YtcmjdepjckhpdaaDoor.So
namespace Go.Proofs.YtcmjdepjckhpdaaDoor.So
open Go Go.RowKit Kt Kg Wr Lw Sha Dk Dg

def fewT (l : List Bs) : Bool := l.all (fun x => decide (x.length ≤ 60)) && decide (l.length ≤ 16)
theorem fewT_spec {l : List Bs} (h : fewT l = true) : (∀ x ∈ l, x.length ≤ 60) ∧ l.length ≤ 16 := by
  unfold fewT at h
  rw [Bool.and_eq_true, decide_eq_true_eq, List.all_eq_true] at h
  exact ⟨fun x hx => by simpa using h.1 x hx, h.2⟩
set_option maxHeartbeats 1000000 in
set_option maxRecDepth 100000 in
theorem fewT_any (L : List Bs) (A : Option Addr) (c : Nat) (P : Nat → Prop) (w : World) (hs : Vs w P A c (texts L)) (hl : L.length ≤ 9223372036854775807) :
    Calls Tryd.prog 10 #[.slice A L.length c] w fun y w' => y = .returned (.bool (fewT L)) ∧ Below w.heap.size w w' := by
  have Hs := hide hs
  obtain ⟨N, hN⟩ : ∃ N, N = L.length := ⟨_, rfl⟩
  rw [← hN] at hl ⊢
  have HN := hide hN
  clear hs hN
  go_enter Tryd.func10, Tryd.ntmps10
  go_wp2
  go_loopw [3] (fun i wr => ∃ k : Nat, k ≤ N ∧ i = .int .i64 k ∧ (∀ j e, j < k → L[j]? = some e → e.length ≤ 60) ∧ Below w.heap.size w wr) (fun i _ => N - (intOf i).toNat)
  case atStart => exact ⟨0, Nat.zero_le _, rfl, fun j e h => absurd h (Nat.not_lt_zero _), Below.refl _ _⟩
  case round =>
    obtain ⟨k, hk, rfl, hall, hb⟩ := hrel
    have Hb := hide hb
    have Hall := hide hall
    clear hb hall
    by_cases hlt : k < N
    · obtain ⟨e, he⟩ : ∃ e, L[k]? = some e := ⟨_, List.getElem?_eq_getElem (by have := HN.out; omega)⟩
      obtain ⟨b, o, rfl, hS, c0⟩ := vs_at Hs.out he
      have c0' := (World.cell?_of_block (a := ⟨b, o + k, none⟩) (Hb.out.block b (World.block_lt_of_cell? w _ c0))).trans c0
      have Hke := hide he
      clear c0 he hS
      obtain ⟨T, hT⟩ : ∃ T, T = ByteArray.mk e.toArray := ⟨_, rfl⟩
      have hM : T.size = e.length := by rw [hT]; rfl
      rw [← hT] at c0'
      by_cases h1 : T.size ≤ 60
      · have d1 : decide (60 < (T.size : Int)) = false := by simp; omega
        have h1' : ¬ 60 < T.size := by omega
        have Hy := hide (show e.length ≤ 60 by rw [← hM]; exact h1)
        clear hM hT
        go_wp2
        refine ⟨⟨k + 1, by omega, by go_num, fun j e' hj he' => ?_, Hb.out⟩, by simp [intOf]; omega⟩
        rcases Nat.lt_or_ge j k with hl | hl
        · exact Hall.out j e' hl he'
        · obtain rfl : j = k := by omega
          rw [Hke.out] at he'
          injection he' with he'
          rw [← he']; exact Hy.out
      · have d1 : decide (60 < (T.size : Int)) = true := by simp; omega
        have h1' : 60 < T.size := by omega
        have Hf := hide (show fewT L = false by
          unfold fewT
          rw [Bool.and_eq_false_iff]
          left
          rw [List.all_eq_false]
          exact ⟨e, List.mem_of_getElem? Hke.out, by rw [decide_eq_true_eq, ← hM]; exact h1⟩)
        clear hM hT
        go_wp2
        go_ret
        exact ⟨by rw [Hf.out]; rfl, Hb.out⟩
    · obtain rfl : k = N := by omega
      have Hf := hide (show fewT L = decide ((k : Int) ≤ 16) by
        unfold fewT
        have h1 : (L.all fun x => decide (x.length ≤ 60)) = true := by
          rw [List.all_eq_true]
          intro e he
          obtain ⟨j, hj⟩ := List.getElem?_of_mem he
          have hjl := (List.getElem?_eq_some_iff.1 hj).1
          exact decide_eq_true (Hall.out j e (by have := HN.out; omega) hj)
        rw [h1, Bool.true_and, decide_eq_decide]
        have := HN.out
        omega)
      go_wp2
      go_ret
      exact ⟨by rw [Hf.out]; simp, Hb.out⟩
set_option maxHeartbeats 1000000 in
set_option maxRecDepth 100000 in
theorem empty_any (n : Nat) (hn : n ≤ 16777216) (w : World) :
    Calls Tryd.prog 11 #[.int .i64 (n : Int)] w fun y w' => ∃ g h, y = .returned (.tuple #[.pointer (some ⟨g, 0, none⟩), .pointer (some ⟨h, 0, none⟩)]) ∧
      DkIn w' (· = g) g (new n) ∧ RtIn w' (· = h) h ⟨[], n, false, 0, false⟩ ∧ w.heap.size ≤ g ∧ g < h ∧ Below w.heap.size w w' := by
  have Hn := hide hn
  clear hn
  go_enter Tryd.func11, Tryd.ntmps11
  go_wp2_with fail
  refine (new_yes n Hn.out w).mono ?_
  rintro y w1 ⟨g, rfl, hd, hg, hb⟩
  have Hd := hide hd
  have Hg := hide hg
  have Hb := hide hb
  clear hd hg hb
  go_wp2
  refine bodyPost_ret (results_tmp2 rfl _ _ _) rfl ⟨g, w1.heap.size, rfl, Hd.out.below ((Below.refl _ w1).alloc (Nat.le_refl _) _), ⟨.slice none 0 0, Row.fresh w1 tR _, OwnS.nil _ _ _, rfl, fun k hk => ?_⟩, Nat.le_of_eq Hg.out.symm, Hd.out.lt g rfl, Hb.out.alloc Hb.out.size _⟩
  rw [hk, World.size_alloc]
  exact Nat.lt_succ_self _
end Go.Proofs.YtcmjdepjckhpdaaDoor.So
