/-
  order: two graphs, the same nodes added to both; are ids of a size that is looked at?
-/
import Derived.Test.YtplmcpdlommmaaaDS
import Derived.Test.YtplmcpdlommmaaaQDE
import Derived.Test.YtplmcpdlommmaaaQCC
namespace Go.Proofs.Ytplmcpdlommmaaa.Oq
open Go Go.RowKit Kt Kg Lw Tr Dq

/-- the contract, from a later world on -/
theorem rebase {w0 w : World} {In : World → (Nat → Prop) → Nat → List Nd → Prop} (C : Cd w0 In) (h : Below w0.heap.size w0 w) : Cd w In := by
  have hb : ∀ {W : World}, Below w.heap.size w W → Below w0.heap.size w0 W := fun k => h.trans (k.mono h.size)
  exact ⟨C.lt, C.move, fun k => C.new (hb k), fun id ps A c Pb k1 k2 k3 k4 k5 => C.add id ps A c Pb (hb k1) k2 k3 k4 (fun b hb => Nat.le_trans h.size (k5 b hb)), fun id k => C.has id (hb k), fun k => C.ids (hb k), fun k => C.many (hb k), fun k => C.waiting (hb k), fun k => C.lacks (hb k), fun id k => C.parents id (hb k), fun id k => C.level id (hb k), fun k => C.heads (hb k), fun a b k => C.above a b (hb k)⟩
section
variable {In : World → (Nat → Prop) → Nat → List Nd → Prop} {w0 w1 W W' : World} {g : Nat} {D : List Nd} {F T : Nat → Prop}
theorem gd_base (h : GD In w1 W g D F) (hb : Below w0.heap.size w0 w1) : GD In w0 W g D F := by
  obtain ⟨h1, h2, S, h3, h4, h5⟩ := h
  exact ⟨hb.trans (h1.mono hb.size), h2, S, h3, fun k hk => Nat.le_trans hb.size (h4 k hk), h5⟩
theorem gd_oth (C : Cd w0 In) (h : GD In w0 W g D F) (ho : Oth T W W') (hT : ∀ k, T k → F k ∧ w0.heap.size ≤ k) : GD In w0 W' g D (fun k => F k ∨ (W.heap.size ≤ k ∧ k < W'.heap.size)) := by
  obtain ⟨h1, h2, S, h3, h4, h5⟩ := h
  refine ⟨oth_low ho h1 fun k hk => (hT k hk).2, h2, S, C.oth h3 ho fun k hk ht => (h5 k (hT k ht).1).2 hk, h4, fun k hk => ?_⟩
  rcases hk with hk | hk
  · exact ⟨Nat.lt_of_lt_of_le (h5 k hk).1 ho.size, (h5 k hk).2⟩
  · exact ⟨hk.2, fun hs => by have := C.lt h3 k hs; omega⟩
end
/-- nodes of a size that is looked at -/
def Fine (l : List Nd) : Prop := ∀ n ∈ l, n.id.length ≤ 40 ∧ n.ps.length ≤ 6 ∧ ∀ p ∈ n.ps, p.length ≤ 40
theorem run_fine {l : List Nd} (h : Fine l) : Fine (run l) := by
  suffices ∀ (r l : List Nd), Fine (run l) → Fine r → Fine (run (l ++ r)) from this l [] (fun n hn => by cases hn) h
  intro r
  induction r with
  | nil => intro l h _; rw [List.append_nil]; exact h
  | cons n r ih =>
    intro l h1 h2
    rw [show l ++ n :: r = (l ++ [n]) ++ r by simp]
    refine ih (l ++ [n]) (fun m hm => ?_) fun m hm => h2 m (List.mem_cons_of_mem _ hm)
    have hk := run_keeps l
    rw [run_snoc] at hm
    rcases ((add_keeps hk.1 hk.2.1 n.id n.ps).2.2.1 (m.id, m.ps)).1 (List.mem_map.2 ⟨m, hm, rfl⟩) with k | ⟨_, k⟩
    · obtain ⟨m', hm', e⟩ := List.mem_map.1 k
      injection e with e1 e2
      rw [← e1, ← e2]
      exact h1 m' hm'
    · injection k with e1 e2
      have := h2 n List.mem_cons_self
      rw [e1, e2]
      exact ⟨this.1, Nat.le_trans (sortIds_len _) this.2.1, fun p hp => this.2.2 p (sortIds_mem.1 hp)⟩
theorem run_sm {l : List Nd} (h : Fine l) (hl : l.length ≤ 38) : Sm (run l) := ⟨Nat.le_trans (run_keeps l).2.2 hl, run_fine h⟩
theorem fine_of {l : List Nd} (h : fewN l = true) : Fine l ∧ l.length ≤ 14 := fewN_spec h
theorem run_next2 {l : List Nd} {k : Nat} {n : Nd} (h : l[k]? = some n) : run (l.take (k + 1)) = (Dq.add (run (l.take k)) n.id n.ps).1 := by
  rw [List.take_add_one, h]
  exact run_snoc _ _
set_option maxRecDepth 100000 in
set_option maxHeartbeats 4000000 in
/-- two graphs, the program's and the document's -/
theorem both_any {In : World → (Nat → Prop) → Nat → List Nd → Prop} (l : List Nd) (A : Option Addr) (c : Nat) (w0 w : World) (C : Cd w0 In) (hlow : Below w0.heap.size w0 w) (hs : Nds w0 A c l) (hf : Fine l) (hl : l.length ≤ 28) :
    Calls Try.prog 32 #[.slice A l.length c] w fun y w' => ∃ g r Sr, y = .returned (.tuple #[pt g, pt r]) ∧ GD In w0 w' g (run l) Sr ∧ RdIn w' Sr r (run l) ∧ (∀ k, Sr k → w0.heap.size ≤ k) ∧ Below w0.heap.size w0 w' := by
  have HC := hide C
  have Hs := hide hs
  have HFe := hide hf
  have HNew := hide (GD.new C hlow)
  have HLow := hide hlow
  obtain ⟨N, hN⟩ : ∃ N, N = l.length := ⟨_, rfl⟩
  have HN := hide hN
  rw [← hN] at hl ⊢
  clear C hs hf hN hlow
  go_enter Try.func32, Try.ntmps32
  go_wp2_with fail
  refine HNew.out.mono ?_
  rintro y w1 ⟨g, rfl, hg1, hb1⟩
  have HLow1 := hide (HLow.out.trans (hb1.mono HLow.out.size))
  have HG1 := hide hg1
  clear hb1 hg1 HNew
  go_wp2
  obtain ⟨r, hr⟩ : ∃ r, r = w1.heap.size := ⟨_, rfl⟩
  obtain ⟨w2, hw2⟩ : ∃ z, z = w1.alloc (.cells #[.slice none 0 0] tRd) := ⟨_, rfl⟩
  rw [← hr, ← hw2]
  have hb2 : Below w1.heap.size w1 w2 := by rw [hw2]; exact (Below.refl _ _).alloc (Nat.le_refl _) _
  have hsz2 : w2.heap.size = r + 1 := by rw [hw2, hr]; simp
  have HG2 := hide (show GD In w0 w2 g (run (l.take 0)) (fun k => k = r) from (HG1.out.below HC.out hb2).imp fun k hk => .inr (by rw [hk, hsz2, hr]; omega))
  have HR2 := hide (show RdIn w2 (fun k => k = r) r (run (l.take 0)) from by
    have hrow : Row w2 r tRd [.slice none 0 0] := by rw [hw2, hr]; exact Row.fresh w1 tRd #[Value.slice none 0 0]
    exact ⟨.slice none 0 0, [], rfl, hrow, rfl, World.ownsRow_nil _ _ _ _, (fun b e => by cases e), (fun p hp => by cases hp), fun k hk => by rw [hk, hsz2]; omega⟩)
  have HS2 := hide (show ∀ k, k = r → w0.heap.size ≤ k from fun k hk => by rw [hk, hr]; exact HLow1.out.size)
  clear hr hw2 hb2 hsz2 HG1
  go_loopw [6] (fun i wr => ∃ (k : Nat) (Sr : Nat → Prop), k ≤ N ∧ i = .int .i64 k ∧ Hid (GD In w0 wr g (run (l.take k)) Sr) ∧ Hid (RdIn wr Sr r (run (l.take k))) ∧ Hid (∀ b, Sr b → w0.heap.size ≤ b)) (fun i _ => N - (intOf i).toNat)
  case atStart => exact ⟨0, _, Nat.zero_le _, rfl, by show Hid _; exact HG2, by show Hid _; exact HR2, by show Hid _; exact HS2⟩
  case round =>
    clear HG2 HR2 HS2
    obtain ⟨k, Sr, hk, rfl, HG, HR, HS⟩ := hrel
    by_cases hlt : k < N
    · obtain ⟨n, hx⟩ : ∃ n, l[k]? = some n := ⟨_, List.getElem?_eq_getElem (by have := HN.out; omega)⟩
      obtain ⟨b, o, A', c', rfl, hX, hv⟩ := Hs.out.ever hx
      have HX := hide hX
      have HV := hide hv
      have hfe := HFe.out n (List.mem_of_getElem? hx)
      have hrl : (run (l.take k)).length < 40 := by
        have := (run_keeps (l.take k)).2.2
        rw [List.length_take] at this
        omega
      have hd : Below wr.heap.size wr wr.drew := (Below.refl _ _).drew
      have HAdd := hide ((HG.out.stay HC.out hd).add HC.out n.id n.ps A' c' _ hrl (vs_move (w' := wr.drew) hv fun b hb => (HG.out.low.drew).block b hb) (fun k hk => .inr hk) (by omega) ⟨by omega, fun p hp => by have := hfe.2.2 p hp; omega⟩)
      have HNx := hide (run_next2 hx)
      have HFn := hide hfe
      have HRl := hide hrl
      have HOk := hide HG.out.ok
      rw [← HNx.out] at HAdd
      obtain ⟨M, hM⟩ : ∃ M, M = n.ps.length := ⟨_, rfl⟩
      rw [← hM] at HAdd HX
      have HM := hide hM
      have hc := HX.out wr HG.out.low
      clear hx hX hv hfe hrl hd hM
      go_wp2
      refine Rg.wp_region_ord (fun w' => w'.cell? ⟨b, o + k * 3, none⟩ = some (.string ⟨n.id.toArray⟩) ∧ w'.cell? ⟨b, o + k * 3 + 1, none⟩ = some (.slice A' M c')) [(0, true), (1, true), (2, true), (3, true), (4, true), (5, true), (6, true), (7, true), (8, true), (9, true), (10, true), (11, false)] (by kernel_rfl) (by kernel_rfl) ?_
      simp only [Rg.pick, List.map_cons, List.map_nil, List.getD_cons_zero, List.getD_cons_succ]
      iterate 11 (refine Rg.ord_quiet (v := ?_) rfl (fun w' hS => ?_) hc ?_; rotate_left; (obtain ⟨s1, s2⟩ := hS; go_simp; with_reducible rfl); simp only [Act.put, List.setIfInBounds_toArray, List.set_cons_succ, List.set_cons_zero])
      refine Rg.ord_loud (by rfl) (fun K hK => ?_)
      go_simp
      refine HAdd.out.mono ?_
      rintro y w9 ⟨v, rfl, hv9, hg9, hF9, _, hsz9⟩
      have hR9 : RdIn w9 Sr r (run (l.take k)) := HR.out.move (fun b hb => hF9 b hb) hsz9
      have HG9 := hide hg9
      have HR9 := hide hR9
      have hc9 := HX.out w9 HG9.out.low
      clear hg9 hv9 hF9 hsz9 hR9 HAdd hc HG HR
      refine hK _ _ (fun _ => hc9) ?_
      clear hK K
      refine Rg.ord_nil ?_
      have hradd := radd_any (show RdIn w9.drew Sr r (run (l.take k)) from HR9.out.below (Below.refl _ w9).drew) HOk.out HRl.out n.id n.ps _ c' _ (vs_move (w' := w9.drew) HV.out fun b hb => (HG9.out.low.drew).block b hb) (by have := HFn.out.1; omega) ⟨by have := HFn.out.2.1; omega, fun p hp => by have := HFn.out.2.2 p hp; omega⟩
      rw [← HNx.out, ← HM.out] at hradd
      have HRa := hide hradd
      clear hradd
      go_wp2
      refine Rg.wp_region_ord (fun w' => w'.cell? ⟨b, o + k * 3, none⟩ = some (.string ⟨n.id.toArray⟩) ∧ w'.cell? ⟨b, o + k * 3 + 1, none⟩ = some (.slice A' M c')) [(0, true), (1, true), (2, true), (3, true), (4, true), (5, true), (6, true), (7, true), (8, true), (9, true), (10, true), (11, false)] (by kernel_rfl) (by kernel_rfl) ?_
      simp only [Rg.pick, List.map_cons, List.map_nil, List.getD_cons_zero, List.getD_cons_succ]
      iterate 11 (refine Rg.ord_quiet (v := ?_) rfl (fun w' hS => ?_) hc9 ?_; rotate_left; (obtain ⟨s1, s2⟩ := hS; go_simp; with_reducible rfl); simp only [Act.put, List.setIfInBounds_toArray, List.set_cons_succ, List.set_cons_zero])
      refine Rg.ord_loud (by rfl) (fun K hK => ?_)
      go_simp
      refine HRa.out.mono ?_
      rintro y w10 ⟨v10, S10, rfl, _, hr10, ho10, hs10, _⟩
      have hG10 := gd_oth HC.out (HG9.out.stay HC.out (Below.refl _ w9).drew) ho10 fun k hk => ⟨.inl hk, HS.out k hk⟩
      have HG10 := hide (hG10.imp (F' := S10) fun k hk => by
        rcases hs10 k hk with z | z
        · exact .inl (.inl z)
        · exact .inr ⟨z, hr10.lt k hk⟩)
      have HR10 := hide hr10
      have HS10 := hide (show ∀ b, S10 b → w0.heap.size ≤ b from fun b hb => by
        rcases hs10 b hb with z | z
        · exact HS.out b z
        · exact Nat.le_trans HG9.out.low.size z)
      have hc10 := HX.out w10 HG10.out.low
      clear hr10 ho10 hs10 hG10 HRa hc9 HG9 HR9
      refine hK _ _ (fun _ => hc10) ?_
      clear hK K
      refine Rg.ord_nil ?_
      go_wp2
      exact ⟨⟨k + 1, S10, by omega, by go_num, by show Hid _; exact HG10, by show Hid _; exact HR10, by show Hid _; exact HS10⟩, by simp [intOf]; omega⟩
    · obtain rfl : k = N := by omega
      have HG2 := hide (show GD In w0 wr g (run l) Sr from by
        have := HG.out
        rwa [HN.out, List.take_length] at this)
      have HR2 := hide (show RdIn wr Sr r (run l) from by
        have := HR.out
        rwa [HN.out, List.take_length] at this)
      go_wp2
      go_ret2
      exact ⟨g, r, Sr, rfl, HG2.out, HR2.out, HS.out, HG2.out.low⟩
end Go.Proofs.Ytplmcpdlommmaaa.Oq
