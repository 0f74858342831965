/-
  What digest.New, and the methods Write and Sum of its thing, come to.
-/
import Derived.Test.YtlplgkdoiinfhaaDoorQ11
import Derived.Laws.CopyOwn
import Derived.Test.YtlplgkdoiinfhaaDoorQ2
namespace Go.Proofs.YtlplgkdoiinfhaaDoor.Dg
open Go Go.RowKit Kt Sha

/-- the cells of a hash of the text t, whose last block's place holds these -/
def hashCells (t last : List UInt8) : List Value := u32s (state t).list ++ (u8s last ++ [.int .u64 (t.length : Nat)])
structure HashIs (w : World) (g : Nat) (t last : List UInt8) : Prop where
  row : Row w g 101 (hashCells t last)
  len : last.length = 64
  tail : last.take (t.length % 64) = t.drop (t.length / 64 * 64)
def HashAt (w : World) (g : Nat) (t : List UInt8) : Prop := ∃ last, HashIs w g t last

theorem hash_len (t last : List UInt8) (h : last.length = 64) : (hashCells t last).length = 73 := by simp [hashCells, u32s_len, u8s_len, h, St.list]
theorem hash_one (t last : List UInt8) : ∀ v ∈ hashCells t last, v.oneCell' = true := by
  intro v hv
  simp only [hashCells, List.mem_append, List.mem_singleton] at hv
  rcases hv with h | h | rfl
  · exact u32s_one _ v h
  · exact u8s_one _ v h
  · rfl
theorem hash_many (t last : List UInt8) (h : last.length = 64) : (hashCells t last)[72]? = some (.int .u64 (t.length : Nat)) := by
  unfold hashCells
  rw [List.getElem?_append_right (by simp [u32s_len, St.list]), List.getElem?_append_right (by simp [u32s_len, u8s_len, St.list, h])]
  simp [u32s_len, u8s_len, St.list, h]

theorem size64b : (Tryd.prog.info? 99).map (·.size) = some 64 := by kernel_rfl
theorem size1 : (Tryd.prog.info? 5).map (·.size) = some 1 := by kernel_rfl

theorem zero53 (w : World) : (zeroValue 101).run Tryd.prog w = .ok (.agg #[.int .u32 0, .int .u32 0, .int .u32 0, .int .u32 0, .int .u32 0, .int .u32 0, .int .u32 0, .int .u32 0, .int .u8 0, .int .u8 0, .int .u8 0, .int .u8 0, .int .u8 0, .int .u8 0, .int .u8 0, .int .u8 0, .int .u8 0, .int .u8 0, .int .u8 0, .int .u8 0, .int .u8 0, .int .u8 0, .int .u8 0, .int .u8 0, .int .u8 0, .int .u8 0, .int .u8 0, .int .u8 0, .int .u8 0, .int .u8 0, .int .u8 0, .int .u8 0, .int .u8 0, .int .u8 0, .int .u8 0, .int .u8 0, .int .u8 0, .int .u8 0, .int .u8 0, .int .u8 0, .int .u8 0, .int .u8 0, .int .u8 0, .int .u8 0, .int .u8 0, .int .u8 0, .int .u8 0, .int .u8 0, .int .u8 0, .int .u8 0, .int .u8 0, .int .u8 0, .int .u8 0, .int .u8 0, .int .u8 0, .int .u8 0, .int .u8 0, .int .u8 0, .int .u8 0, .int .u8 0, .int .u8 0, .int .u8 0, .int .u8 0, .int .u8 0, .int .u8 0, .int .u8 0, .int .u8 0, .int .u8 0, .int .u8 0, .int .u8 0, .int .u8 0, .int .u8 0, .int .u64 0]) w := by kernel_rfl

theorem Tab.grown {w w' : World} (h : Tab w) {g : Nat} (hb : w.grownBy w' (some g)) (hg : g ≠ 1) : Tab w' :=
  fun i hi => hb.cell (h i hi) (fun e => hg (by injection e with e; exact e.symm))
theorem Tab.drew {w : World} (h : Tab w) : Tab w.drew := h
theorem range_sums {W : World} {g : Nat} {s : St} {R : List Value} (h : Row W g 101 (u32s s.list ++ R)) : W.rangeAt g 0 (u32s s.list) := fun j u hu => by
  have hj := (List.getElem?_eq_some_iff.1 hu).1
  rw [h.cell, List.getElem?_append_left (by omega), ← hu, Nat.zero_add]
theorem range_last {W : World} {g : Nat} {s : St} {L : List UInt8} {R : List Value} (h : Row W g 101 (u32s s.list ++ (u8s L ++ R))) : W.rangeAt g 8 (u8s L) := fun j u hu => by
  have hj := (List.getElem?_eq_some_iff.1 hu).1
  rw [h.cell, List.getElem?_append_right (by simp [u32s_len, St.list]), List.getElem?_append_left (by simp [u32s_len, St.list]; omega), ← hu]
  congr 1; simp [u32s_len, St.list]
theorem there_sums {W : World} {g : Nat} {s : St} {R : List Value} (h : Row W g 101 (u32s s.list ++ R)) : W.there g 0 8 := fun j hj => ⟨by
  rw [h.cell, List.getElem?_append_left (by simp [u32s_len, St.list]; omega), List.getElem?_eq_getElem (by simp [u32s_len, St.list]; omega)]; rfl, h.free _⟩
theorem row_cells {w : World} {g : Nat} {t : TypeId} {A R : List Value} (h : Row w g t (A ++ R)) (vs : List Value) (hv : vs.length = A.length) : Row (w.setCells g 0 vs) g t (vs ++ R) := by
  have key : ∀ (vs A : List Value) (P : List Value) (w : World), Row w g t (P ++ (A ++ R)) → vs.length = A.length → Row (w.setCells g P.length vs) g t (P ++ (vs ++ R)) := by
    intro vs
    induction vs with
    | nil => intro A P w h hv; obtain rfl := List.eq_nil_of_length_eq_zero hv.symm; exact h
    | cons v r ih =>
      intro A P w h hv
      cases A with
      | nil => simp at hv
      | cons a A' =>
        have h1 := h.put P.length v
        have e : (P ++ (a :: A' ++ R)).set P.length v = (P ++ [v]) ++ (A' ++ R) := by simp
        rw [e] at h1
        have := ih A' (P ++ [v]) _ h1 (by simpa using hv)
        rw [World.setCells]
        simpa using this
  exact key vs A [] w h hv

theorem new_any (w : World) : Calls Tryd.prog 53 #[] w fun e w' => e = .returned (.pointer (some ⟨w.heap.size, 0, none⟩)) ∧ HashAt w' w.heap.size [] ∧ Below w.heap.size w w' := by
  have hz := zero53
  go_enter Tryd.func53, Tryd.ntmps53
  go_wp2
  go_ret
  refine ⟨rfl, ⟨List.replicate 64 0, ?_, rfl, rfl⟩, (Below.refl _ _).alloc (Nat.le_refl _) _⟩
  exact Row.new w _ rfl rfl

theorem hash_splice (t last x : List UInt8) (k : Nat) (hl : last.length = 64) (h : k + x.length ≤ 64) :
    splice (hashCells t last) (8 + k) (u8s x) = u32s (state t).list ++ (u8s (splice last k x) ++ [.int .u64 (t.length : Nat)]) := by
  unfold hashCells
  rw [splice_mid _ _ _ k 8 _ (by simp [u32s_len, St.list]) (by simp [u8s_len]; omega), splice_u8s]
theorem hash_set (A : List Value) (L : List UInt8) (m : Value) (v : Value) (hA : A.length = 8) (hL : L.length = 64) : (A ++ (u8s L ++ [m])).set 72 v = A ++ (u8s L ++ [v]) := by
  rw [List.set_append, if_neg (by omega), List.set_append, if_neg (by rw [u8s_len]; omega), u8s_len, hA, hL]
  rfl

theorem take_min (l : List UInt8) (a : Nat) : l.take a = l.take (min a l.length) := by
  rcases Nat.le_total a l.length with h | h
  · rw [Nat.min_eq_left h]
  · rw [Nat.min_eq_right h, List.take_of_length_le h, List.take_of_length_le (Nat.le_refl _)]
theorem next_rest {rest x : List UInt8} {k m : Nat} (hx : rest.take k = x) (hm : min k rest.length = m) : x ++ rest.drop m = rest := by
  rw [← hx, take_min, hm, List.take_append_drop]

set_option maxHeartbeats 1000000 in
set_option maxRecDepth 100000 in
theorem write_any (t bs : List UInt8) (g : Nat) (A : Option Addr) (c : Nat) (w : World) (hh : HashAt w g t) (hs : Sl w (· ≠ g) A c bs) (ht : Tab w) (hg : g ≠ 1) (hn : t.length + bs.length < 4294967296) :
    Calls Tryd.prog 54 #[.pointer (some ⟨g, 0, none⟩), .slice A bs.length c] w fun e w' => e = .returned (.tuple #[]) ∧ HashAt w' g (t ++ bs) ∧ w.grownBy w' (some g) := by
  have Hs := hide hs
  have Hh := hide hh
  have Ht := hide ht
  clear hs hh ht
  go_enter Tryd.func54, Tryd.ntmps54
  go_wp2
  go_loopw [1] (fun v wr => ∃ (done rest : List UInt8) (A : Option Addr) (c : Nat), bs = done ++ rest ∧ v = .slice A rest.length c ∧ Sl wr (fun b => b ≠ g ∧ b < w.heap.size) A c rest ∧ HashAt wr g (t ++ done) ∧ w.grownBy wr (some g)) (fun v _ => lenOf v)
  case atStart => exact ⟨[], bs, A, c, rfl, rfl, Hs.out.bound, by simpa using Hh.out, World.grownBy.refl _ _⟩
  case round =>
    obtain ⟨done, rest, A, c, hbs, rfl, hsl, hh, hgr⟩ := hrel
    by_cases hr : 0 < rest.length
    · obtain ⟨last, hh⟩ := hh
      have c72 : wr.cell? ⟨g, 72, none⟩ = some (.int .u64 ((t ++ done).length : Nat)) := by rw [hh.row.cell, hash_many _ _ hh.len]
      obtain ⟨n, hn'⟩ : ∃ n, n = (t ++ done).length := ⟨_, rfl⟩
      rw [← hn'] at c72
      have hlt : n + rest.length < 4294967296 := by rw [hn', List.length_append]; rw [hbs, List.length_append] at hn; omega
      have Hn := hide hn'
      have Hbs := hide hbs
      clear hn' hbs
      have hmod : (n : Int) % 64 < 64 := by omega
      have hmod2 : (n : Int) % 64 ≤ 64 := by omega
      have hmod0 : 0 ≤ (n : Int) % 64 := by omega
      go_wp2
      have hmodt : (n : Int).tmod 64 = ((n % 64 : Nat) : Int) := by rw [Int.tmod_eq_emod_of_nonneg (by omega)]; omega
      have hmod3 : n % 64 ≤ 64 := by omega
      have He : Hid (((n : Int) % 64).toNat = n % 64) := by show _ = _; omega
      have Hne : Hid (¬ 64 = n % 64) := by show ¬ _; omega
      go_region_law (refine step_copy_bytes rfl (.tmp 16) (.tmp 17) 25 25 rfl 5 Tryd.underlying25 size1 g (8 + n % 64) (64 - n % 64) (64 - n % 64) c A rest _ (by simp [Act.eval, Act.put, He.out, Hne.out]) (by simp [Act.eval, Act.put]) hsl.drew (hashCells (t ++ done) last) _ hh.row.drew (by rw [hash_len _ _ hh.len]; omega) ?_)
      have hx : Hid (rest.take (64 - n % 64) = rest.take (64 - n % 64)) := rfl
      have hW : Row (wr.drew.setRow g (splice (hashCells (t ++ done) last) (8 + n % 64) (u8s (List.take (64 - n % 64) rest))).toArray) g _ _ := hh.row.drew.all _
      have hgr1 : w.grownBy (wr.drew.setRow g (splice (hashCells (t ++ done) last) (8 + n % 64) (u8s (List.take (64 - n % 64) rest))).toArray) (some g) := grown_all (grown_drew hgr) _
      have hsl1 : Sl (wr.drew.setRow g (splice (hashCells (t ++ done) last) (8 + n % 64) (u8s (List.take (64 - n % 64) rest))).toArray) (fun b => b ≠ g ∧ b < w.heap.size) A c rest :=
        hsl.drew.move fun b hb _ => setRow_other _ _ _ _ hb.1
      generalize (wr.drew.setRow g (splice (hashCells (t ++ done) last) (8 + n % 64) (u8s (List.take (64 - n % 64) rest))).toArray) = W at *
      generalize hxe : List.take (64 - n % 64) rest = x at *
      have hxm : x.length = min (64 - n % 64) rest.length := by rw [← hxe, List.length_take]
      generalize hme : min (64 - n % 64) rest.length = m at *
      have hm0 : 0 < m := by omega
      have hm1 : m ≤ rest.length := by omega
      have hm2 : n % 64 + m ≤ 64 := by omega
      have Hme := hide hme
      have Hxe := hide hxe
      have Hxm := hide hxm
      clear hme hxe hxm
      have hrow : Row W g 101 (u32s (state (t ++ done)).list ++ (u8s (splice last (n % 64) x) ++ [.int .u64 (n : Nat)])) := by
        have e := hash_splice (t ++ done) last x (n % 64) hh.len (by rw [Hxm.out]; omega)
        rw [← Hn.out] at e
        rwa [e] at hW
      have hl' : (splice last (n % 64) x).length = 64 := by rw [splice_len _ _ _ (by rw [hh.len, Hxm.out]; omega), hh.len]
      have Hl' := hide hl'
      clear hl'
      have d72 : W.cell? ⟨g, 72, none⟩ = some (.int .u64 (n : Nat)) := by
        rw [hrow.cell, List.getElem?_append_right (by simp [u32s_len, St.list]), List.getElem?_append_right (by simp [u32s_len, u8s_len, St.list, Hl'.out])]
        simp [u32s_len, u8s_len, St.list, Hl'.out]
      have e72 : W.frozen? ⟨g, 72, none⟩ = false := hrow.free _
      have hrow2 : Row (W.setCell ⟨g, 72, none⟩ (.int .u64 ((n : Int) + (m : Int)))) g 101 (u32s (state (t ++ done)).list ++ (u8s (splice last (n % 64) x) ++ [.int .u64 ((n : Int) + (m : Int))])) := by
        have := hrow.put 72 (.int .u64 ((n : Int) + (m : Int)))
        rwa [hash_set _ _ _ _ (by simp [u32s_len, St.list]) Hl'.out] at this
      have Hh := hide hh
      have Hr := hide hrow2
      have Hs1 := hide hsl1
      have Hg1 := hide hgr1
      clear hh hrow hrow2 hsl1 hgr1 hW c72 hsl
      by_cases hfull : (n + m) % 64 = 0
      · have hb1 : (((n : Int) + (m : Int)) % 64 == 0) = true := by rw [beq_iff_eq]; omega
        have Hf := hide hfull
        clear hfull
        by_cases hcm : c = m
        all_goals
          go_wp2
          have Hg2 := hide (grown_put (i := 72) Hg1.out (.int .u64 ((n : Int) + (m : Int))))
          have Hs2 := hide (Hs1.out.move (w' := W.setCell ⟨g, 72, none⟩ (.int .u64 ((n : Int) + (m : Int)))) fun b hb _ => Below.heap_setCell W ⟨g, 72, none⟩ _ b hb.1)
          generalize W.setCell ⟨g, 72, none⟩ (.int .u64 ((n : Int) + (m : Int))) = W2 at *
          generalize hst : state (t ++ done) = st at *
          have hso : st.ok := by rw [← hst]; exact blocks_ok _ _
          generalize hL : splice last (n % 64) x = L at *
          have Hst := hide hst
          have Hso := hide hso
          have HL := hide hL
          clear hst hso hL
          have Ht2 := hide ((Ht.out.grown Hg2.out hg).drew)
          refine Rg.wp_region_txt (fun w' => Row w' g 101 (u32s st.list ++ (u8s L ++ [.int .u64 ((n : Int) + (m : Int))]))) [true, true, true, true, true, true, true, true, true, false, false, true, true, false] (by kernel_rfl) (by kernel_rfl) ?_
          simp only [List.zip_cons_cons, List.zip_nil_right]
          have hS := hide Hr.out.drew
          iterate 4 (refine Rg.txt_quiet (v := ?_) rfl (fun w' _ => ?_) hS.out ?_; rotate_left; (go_simp; with_reducible rfl))
          refine Rg.txt_load rfl 98 (.tmp 40) rfl g 0 (by simp [Act.eval, Act.put]) (u32s st.list) _ (fun w' h => range_sums h) Tryd.underlying98 rfl (size8.trans rfl) hS.out ?_
          iterate 3 (refine Rg.txt_quiet (v := ?_) rfl (fun w' _ => ?_) hS.out ?_; rotate_left; (go_simp; with_reducible rfl))
          refine Rg.txt_load rfl 99 (.tmp 44) rfl g 8 (by simp [Act.eval, Act.put]) (u8s L) _ (fun w' h => range_last h) Tryd.underlying99 rfl (size64b.trans (by rw [u8s_len, Hl'.out])) hS.out ?_
          refine Rg.txt_loud rfl (fun K hK => ?_)
          go_simp
          refine (spread_any _ _ Hl'.out).mono ?_
          rintro e w1 ⟨rfl, hb1⟩
          have hr1 := hide (Hr.out.drew.below hb1 Hr.out.drew.lt)
          have ht1 := hide (Ht2.out.below hb1)
          have hg1 := hide (grown_below (grown_drew Hg2.out) hb1)
          have hbb1 := hide hb1
          clear hb1
          refine hK _ _ (fun _ => hr1.out) ?_
          clear hK K
          refine Rg.txt_loud rfl (fun K hK => ?_)
          go_simp
          refine (mix_any _ _ _ Hso.out (ext_len _ _) (ext_lt _ _) ht1.out).mono ?_
          rintro e w2 ⟨rfl, hb2⟩
          have hr2 := hide (hr1.out.below hb2 hr1.out.lt)
          have hg2 := hide (grown_below hg1.out hb2)
          have hbb2 := hide hb2
          clear hb2
          refine hK _ _ (fun _ => hr2.out) ?_
          clear hK K
          iterate 2 (refine Rg.txt_quiet (v := ?_) rfl (fun w' _ => ?_) hr2.out ?_; rotate_left; (go_simp; with_reducible rfl))
          refine Rg.txt_store rfl 98 (.tmp 49) (.tmp 47) rfl g 0 (u32s (mix st (ext L 64)).list).toArray (by simp [Act.eval, Act.put]) (by simp [Act.eval, Act.put]) (there_sums hr2.out) (size8.trans rfl) (u32s_all _) ⟨Rg.not_sink (by kernel_rfl), Rg.txt_nil ?_⟩
          simp only [Act.put, List.setIfInBounds_toArray, List.set_cons_succ, List.set_cons_zero]
          go_wp2
          go_roundw
          case rel =>
            have hw2 : ∀ b, (b ≠ g ∧ b < w.heap.size) → b < W2.heap.size → (w2.setCells g 0 (u32s (mix st (ext L 64)).list)).heap[b]? = W2.heap[b]? := fun b hb hb2 => by
              rw [cells_other (by have := hbb1.out.size; have := hbb2.out.size; have : W2.drew.heap.size = W2.heap.size := rfl; omega) hb.1, hbb2.out.block b (by have := hbb1.out.size; have : W2.drew.heap.size = W2.heap.size := rfl; omega), hbb1.out.block b hb2]; rfl
            have hcut := (Hs2.out.move hw2).cut hm1
            have hrest := next_rest Hxe.out Hme.out
            have htf := tail_full (t := t ++ done) (x := x) (last := last) Hh.out.len Hh.out.tail (by rw [← Hn.out, Hxm.out]; have := Hf.out; omega)
            have hnm : (t ++ (done ++ x)).length = n + m := by rw [← List.append_assoc, List.length_append, ← Hn.out, Hxm.out]
            rw [← Hn.out, HL.out, Hst.out] at htf
            refine ⟨done ++ x, rest.drop m, _, _, by rw [Hbs.out, List.append_assoc, hrest], ?_, hcut, ⟨L, ?_, Hl'.out, ?_⟩, grown_cells hg2.out _ _⟩
            · simp [hcm, List.length_drop]
            · have hq := row_cells hr2.out (u32s (mix st (ext L 64)).list) (by simp [u32s_len, St.list])
              unfold hashCells
              rw [hnm, show t ++ (done ++ x) = t ++ done ++ x from by rw [List.append_assoc], htf.2]
              simpa using hq
            · rw [hnm, Hf.out, List.take_zero, List.drop_of_length_le (by rw [hnm]; have := Hf.out; omega)]
          case measure => simp [lenOf]; omega
      · have hb1 : (((n : Int) + (m : Int)) % 64 == 0) = false := by rw [beq_eq_false_iff_ne]; omega
        have Hf := hide hfull
        clear hfull
        by_cases hcm : c = m
        all_goals
          go_wp2
          have Hg2 := hide (grown_put (i := 72) Hg1.out (.int .u64 ((n : Int) + (m : Int))))
          have Hs2 := hide (Hs1.out.move (w' := W.setCell ⟨g, 72, none⟩ (.int .u64 ((n : Int) + (m : Int)))) fun b hb _ => Below.heap_setCell W ⟨g, 72, none⟩ _ b hb.1)
          generalize W.setCell ⟨g, 72, none⟩ (.int .u64 ((n : Int) + (m : Int))) = W2 at *
          go_roundw
          case rel =>
            have hcut := Hs2.out.cut hm1
            have hrest := next_rest Hxe.out Hme.out
            have htf := tail_part (t := t ++ done) (x := x) (last := last) Hh.out.len Hh.out.tail (by rw [← Hn.out, Hxm.out]; have := Hf.out; omega)
            have hnm : (t ++ (done ++ x)).length = n + m := by rw [← List.append_assoc, List.length_append, ← Hn.out, Hxm.out]
            refine ⟨done ++ x, rest.drop m, _, _, by rw [Hbs.out, List.append_assoc, hrest], ?_, hcut, ⟨splice last (n % 64) x, ?_, Hl'.out, ?_⟩, Hg2.out⟩
            · simp [hcm, List.length_drop]
            · unfold hashCells
              rw [hnm, show t ++ (done ++ x) = t ++ done ++ x from by rw [List.append_assoc], htf.2]
              simpa using Hr.out
            · rw [← Hn.out] at htf
              rw [← List.append_assoc]
              exact htf.1
          case measure => simp [lenOf]; omega
    · obtain rfl : rest = [] := List.eq_nil_of_length_eq_zero (by omega)
      have Hbs := hide hbs
      have Hh2 := hide hh
      have Hg2 := hide hgr
      clear hbs hh hgr hsl hr
      go_wp2
      go_end0
      exact ⟨rfl, by rw [Hbs.out, List.append_nil]; exact Hh2.out, Hg2.out⟩
end Go.Proofs.YtlplgkdoiinfhaaDoor.Dg
namespace Go.Proofs.YtlplgkdoiinfhaaDoor.Dg
open Go Go.RowKit Kt Sha

theorem sizeHash : (Tryd.prog.info? 101).map (·.size) = some 73 := by kernel_rfl
theorem make32 (w : World) : (Instr.makeSlice 25 (.int .i64 0) (.int .i64 32)).run Tryd.prog w = .ok (.slice (some ⟨w.heap.size, 0, none⟩) 0 32) (w.alloc (.cells (u8s (List.replicate 32 0)).toArray 5)) := by kernel_rfl
theorem index8 (s : St) (i : Nat) (h : i < 8) (w : World) : (Instr.index 98 (.agg (u32s s.list).toArray) (.int .i64 (i : Int))).run Tryd.prog w = .ok (.int .u32 (s.list.getD i 0 : Nat)) w := by
  rcases i with _ | _ | _ | _ | _ | _ | _ | _ | i
  all_goals first
    | omega
    | kernel_rfl
theorem bytes_take (s : St) (i : Nat) (h : i < 8) : (s.list.take (i + 1)).flatMap four = (s.list.take i).flatMap four ++ four (s.list.getD i 0) := by
  have hl : i < s.list.length := by simp [St.list]; exact h
  rw [List.take_succ_eq_append_getElem hl, List.flatMap_append, List.flatMap_cons, List.flatMap_nil, List.append_nil]
  simp [List.getElem?_eq_getElem hl]
theorem take_len (s : St) (i : Nat) (h : i ≤ 8) : ((s.list.take i).flatMap four).length = 4 * i := by
  induction i with
  | zero => rfl
  | succ i ih => rw [bytes_take s i (by omega), List.length_append, ih (by omega)]; simp [four]; omega
theorem hash_sums {w3 : World} {g : Nat} {T : List UInt8} {cs : Array Value} {E : TypeId} (h : HashAt w3 g T) : (w3.alloc (.cells cs E)).rangeAt g 0 (u32s (state T).list) := by
  obtain ⟨last, h⟩ := h
  exact range_sums (h.row.alloc _)
theorem four_cells (x : Nat) (h : x < 4294967296) : (#[Value.int .u8 ((x : Int) / 16777216), Value.int .u8 ((x : Int) / 65536 % 256), Value.int .u8 ((x : Int) / 256 % 256), Value.int .u8 ((x : Int) % 256)] : Array Value) = (u8s (four x)).toArray := by
  rw [show (x : Int) / 16777216 = (x : Int) / 16777216 % 256 from by omega]
  simp only [u8s, four, List.map_cons, List.map_nil, UInt8.toNat_ofNat']
  simp
theorem pad_len (n : Nat) : (pad n).length ≤ 72 := by simp [pad, bits8]; have := zeros_le n; omega

set_option maxHeartbeats 1000000 in
set_option maxRecDepth 100000 in
theorem sum_any (t : List UInt8) (g : Nat) (w : World) (hh : HashAt w g t) (ht : Tab w) (_ : g ≠ 1) (hn : t.length < 4294967000) :
    Calls Tryd.prog 55 #[.pointer (some ⟨g, 0, none⟩)] w fun e w' => e = .returned (.string ⟨(sha t).toArray⟩) ∧ Below w.heap.size w w' := by
  obtain ⟨last, hh⟩ := hh
  have Hh := hide hh
  have Ht := hide ht
  have hlt := hh.row.lt
  have c72 : w.cell? ⟨g, 72, none⟩ = some (.int .u64 (t.length : Nat)) := by rw [hh.row.cell, hash_many _ _ hh.len]
  clear hh ht
  have hmk := make32
  have hz := zero53
  have hc73 := hide (hash_len t last Hh.out.len)
  have hsz := hide (sizeHash.trans (congrArg some hc73.out.symm))
  have hlt2 := pad_len t.length
  go_enter Tryd.func55, Tryd.ntmps55
  go_wp2_with (first
    | (refine wpList_load_row rfl 101 (.tmp 8) rfl g rfl 101 (hashCells t last).toArray (0, 0) _ Hh.out.row Tryd.underlying101 rfl (hsz.out.trans (by simp)) ?_)
    | (refine wpList_store_whole rfl 101 (.tmp 3) (.tmp 9) rfl w.heap.size (hashCells t last) rfl rfl 101 _ (Row.new w _ rfl rfl) hsz.out (by rw [hc73.out]; rfl) (hash_one t last) w.heap.size w ((Below.refl _ _).alloc (Nat.le_refl _) _) (Nat.le_refl _) ?_
       intro w1 hr1 hb1 hs1
       have d72 : w1.cell? ⟨g, 72, none⟩ = some (.int .u64 (t.length : Nat)) := (hb1.cell (p := ⟨g, 72, none⟩) hlt).trans c72
       have Hr1 := hide hr1
       have Hb1 := hide hb1
       have Hs1 := hide hs1
       clear hr1 hb1 hs1)
    | (go_at_call 74; refine (filling_any _ _ (by omega)).mono ?_; rintro e w2 ⟨v2, rfl, hown2, hb2⟩
       obtain ⟨A2, c2, rfl, hsl2⟩ := hown2.sl
       have Hb2 := hide hb2
       have Hsl2 := hide hsl2
       clear hb2 hown2 hsl2))
  have hbw2 := Hb1.out.trans (Hb2.out.mono (by have := Hs1.out; simp at this; omega))
  have hne : ∀ b, w1.heap.size ≤ b → b ≠ w.heap.size := by have := Hs1.out; simp at this; intro b hb; omega
  refine (write_any t (pad t.length) w.heap.size A2 c2 _ ⟨last, (Hr1.out.below Hb2.out Hr1.out.lt), Hh.out.len, Hh.out.tail⟩ (Hsl2.out.imp fun b _ hp => hne b hp.1) (Ht.out.below hbw2) (by have := Ht.out.lt; omega) (by omega)).mono ?_
  rintro e w3 ⟨rfl, hh3, hg3⟩
  have Hh3 := hide hh3
  have Hb3 := hide (hbw2.grown hg3 hbw2.size (fun k hk => by injection hk with hk; omega))
  clear hh3 hg3 hbw2 hne
  go_wp2_with (refine wpList_load_mid rfl 98 (.tmp 17) rfl w.heap.size 0 rfl (u32s (state (t ++ pad t.length)).list) _ (hash_sums Hh3.out) Tryd.underlying98 rfl (size8.trans rfl) ?_)
  obtain ⟨st, hst⟩ : ∃ st, st = state (t ++ pad t.length) := ⟨_, rfl⟩
  rw [← hst]
  have hso : st.ok := by rw [hst]; exact blocks_ok _ _
  have Hst := hide hst
  clear hst hz hmk
  go_loopw [4, 19] (fun v i wr => ∃ k : Nat, k ≤ 8 ∧ i = .int .i64 k ∧ Own wr w.heap.size 5 v ((st.list.take k).flatMap four) ∧ Below w.heap.size w wr) (fun _ i _ => 8 - (intOf i).toNat)
  case atStart => exact ⟨0, by omega, rfl, Own.made _ _ _ _ 32 Hb3.out.size (by simp [u8s]) (by simp [maxLen]), Hb3.out.alloc Hb3.out.size _⟩
  case round =>
    obtain ⟨k, hk, rfl, hown, hb⟩ := hrel
    have Hown := hide hown
    have Hb := hide hb
    clear hown hb
    by_cases hlt : k < 8
    · have hix := fun W => index8 st k hlt W
      have hx : st.list.getD k 0 < 4294967296 := getD_lt (fun x hx => by
        simp only [St.list, List.mem_cons, List.not_mem_nil, or_false] at hx
        obtain ⟨h1, h2, h3, h4, h5, h6, h7, h8⟩ := hso
        rcases hx with rfl | rfl | rfl | rfl | rfl | rfl | rfl | rfl <;> assumption) k
      have Hlen := hide (take_len st k (by omega))
      have Hbt := hide (bytes_take st k hlt)
      generalize hxx : st.list.getD k 0 = x at *
      have Hxx := hide hxx
      clear hxx
      have Hcs := hide (four_cells x hx)
      go_wp2_with (refine wpList_push rfl (.tmp 22) (.tmp 34) 25 rfl Tryd.underlying25 info8 w.heap.size w _ ((st.list.take k).flatMap four) (four x) 4 4 rfl rfl Hown.out Hcs.out rfl (by rw [Hlen.out]; simp [four]; omega) Hb.out Hb.out.size ?_; intro v1 w1 hown1 hb1 _)
      go_roundw
      case rel =>
        rw [← Hbt.out] at hown1
        exact ⟨k + 1, by omega, by go_num, hown1, hb1⟩
      case measure => simp [intOf]; omega
    · obtain rfl : k = 8 := by omega
      have hcv := Hown.out.text 25 31 5 Tryd.underlying25 Tryd.underlying5 Tryd.underlying31
      go_wp2
      go_ret
      refine ⟨?_, Hb.out⟩
      unfold sha
      rw [← Hst.out]
      rfl
end Go.Proofs.YtlplgkdoiinfhaaDoor.Dg
namespace Go.Proofs.YtlplgkdoiinfhaaDoor.Dg
open Go Go.RowKit Kt Sha

theorem of_any (bs : List UInt8) (A : Option Addr) (c : Nat) (Pb : Nat → Prop) (w : World) (hs : Sl w Pb A c bs) (ht : Tab w) (hn : bs.length < 4294967000) :
    Calls Tryd.prog 37 #[.slice A bs.length c] w fun e w' => e = .returned (.string ⟨(sha bs).toArray⟩) ∧ Below w.heap.size w w' := by
  have Hs := hide hs
  have Ht := hide ht
  have htl := ht.lt
  clear hs ht
  go_enter Tryd.func37, Tryd.ntmps37
  go_wp2_with (go_at_call 53; refine (new_any _).mono ?_; rintro e w1 ⟨rfl, hh1, hb1⟩; have Hh1 := hide hh1; have Hb1 := hide hb1; clear hh1 hb1)
  have hsl : Sl w1 (fun b => b ≠ w.heap.size) A c bs := ((Hs.out.bound).move fun b hb _ => Hb1.out.block b hb.2).imp fun b _ hb => by omega
  refine (write_any [] bs w.heap.size A c _ Hh1.out hsl (Ht.out.below Hb1.out) (by omega) (by simp; omega)).mono ?_
  rintro e w2 ⟨rfl, hh2, hg2⟩
  have Hh2 := hide hh2
  have Hb2 := hide (Hb1.out.grown hg2 Hb1.out.size (fun k hk => by injection hk with hk; omega))
  clear hh2 hg2 hsl
  go_wp2_with fail
  refine (sum_any bs w.heap.size _ Hh2.out (Ht.out.below Hb2.out) (by omega) hn).mono ?_
  rintro e w3 ⟨rfl, hb3⟩
  have Hb3 := hide (Hb2.out.trans (hb3.mono Hb2.out.size))
  clear hb3
  go_wp2
  go_ret
  exact ⟨rfl, Hb3.out⟩
end Go.Proofs.YtlplgkdoiinfhaaDoor.Dg
