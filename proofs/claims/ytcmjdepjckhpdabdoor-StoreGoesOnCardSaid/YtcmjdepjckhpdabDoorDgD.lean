/-
  What digest.New, and the methods Write and Sum of its thing, come to.
-/
import Derived.Test.YtcmjdepjckhpdabDoorQDgC
import Derived.Laws.CopyOwn
import Derived.Test.YtcmjdepjckhpdabDoorQZB
namespace Go.Proofs.YtcmjdepjckhpdabDoor.Dg
open Go Go.RowKit Kt Sha

/-- the cells of a hash of the text t, whose last block's place holds these -/
def hashCells (t last : List UInt8) : List Value := u32s (state t).list ++ (u8s last ++ [.int .u64 (t.length : Nat)])
structure HashIs (w : World) (g : Nat) (t last : List UInt8) : Prop where
  row : Row w g 93 (hashCells t last)
  len : last.length = 64
  tail : last.take (t.length % 64) = t.drop (t.length / 64 * 64)
def HashAt (w : World) (g : Nat) (t : List UInt8) : Prop := ∃ last, HashIs w g t last

theorem hash_len (t last : List UInt8) (h : last.length = 64) : (hashCells t last).length = 73 := by simp [hashCells, u32s_len, u8s_len, h, St.list]
theorem hash_one (t last : List UInt8) : ∀ v ∈ hashCells t last, v.oneCell' = true := by
  intro v hv
  simp only [hashCells, List.mem_append, List.mem_singleton] at hv
  rcases hv with h | h | rfl
  · exact u32s_one _ v h
  · exact u8s_one _ v h
  · rfl
theorem hash_many (t last : List UInt8) (h : last.length = 64) : (hashCells t last)[72]? = some (.int .u64 (t.length : Nat)) := by
  unfold hashCells
  rw [List.getElem?_append_right (by simp [u32s_len, St.list]), List.getElem?_append_right (by simp [u32s_len, u8s_len, St.list, h])]
  simp [u32s_len, u8s_len, St.list, h]

theorem size64b : (Tryd.prog.info? 91).map (·.size) = some 64 := by kernel_rfl
theorem size1 : (Tryd.prog.info? 5).map (·.size) = some 1 := by kernel_rfl

theorem zero53 (w : World) : (zeroValue 93).run Tryd.prog w = .ok (.agg #[.int .u32 0, .int .u32 0, .int .u32 0, .int .u32 0, .int .u32 0, .int .u32 0, .int .u32 0, .int .u32 0, .int .u8 0, .int .u8 0, .int .u8 0, .int .u8 0, .int .u8 0, .int .u8 0, .int .u8 0, .int .u8 0, .int .u8 0, .int .u8 0, .int .u8 0, .int .u8 0, .int .u8 0, .int .u8 0, .int .u8 0, .int .u8 0, .int .u8 0, .int .u8 0, .int .u8 0, .int .u8 0, .int .u8 0, .int .u8 0, .int .u8 0, .int .u8 0, .int .u8 0, .int .u8 0, .int .u8 0, .int .u8 0, .int .u8 0, .int .u8 0, .int .u8 0, .int .u8 0, .int .u8 0, .int .u8 0, .int .u8 0, .int .u8 0, .int .u8 0, .int .u8 0, .int .u8 0, .int .u8 0, .int .u8 0, .int .u8 0, .int .u8 0, .int .u8 0, .int .u8 0, .int .u8 0, .int .u8 0, .int .u8 0, .int .u8 0, .int .u8 0, .int .u8 0, .int .u8 0, .int .u8 0, .int .u8 0, .int .u8 0, .int .u8 0, .int .u8 0, .int .u8 0, .int .u8 0, .int .u8 0, .int .u8 0, .int .u8 0, .int .u8 0, .int .u8 0, .int .u64 0]) w := by kernel_rfl

theorem Tab.grown {w w' : World} (h : Tab w) {g : Nat} (hb : w.grownBy w' (some g)) (hg : g ≠ 1) : Tab w' :=
  fun i hi => hb.cell (h i hi) (fun e => hg (by injection e with e; exact e.symm))
theorem Tab.drew {w : World} (h : Tab w) : Tab w.drew := h
theorem range_sums {W : World} {g : Nat} {s : St} {R : List Value} (h : Row W g 93 (u32s s.list ++ R)) : W.rangeAt g 0 (u32s s.list) := fun j u hu => by
  have hj := (List.getElem?_eq_some_iff.1 hu).1
  rw [h.cell, List.getElem?_append_left (by omega), ← hu, Nat.zero_add]
theorem range_last {W : World} {g : Nat} {s : St} {L : List UInt8} {R : List Value} (h : Row W g 93 (u32s s.list ++ (u8s L ++ R))) : W.rangeAt g 8 (u8s L) := fun j u hu => by
  have hj := (List.getElem?_eq_some_iff.1 hu).1
  rw [h.cell, List.getElem?_append_right (by simp [u32s_len, St.list]), List.getElem?_append_left (by simp [u32s_len, St.list]; omega), ← hu]
  congr 1; simp [u32s_len, St.list]
theorem there_sums {W : World} {g : Nat} {s : St} {R : List Value} (h : Row W g 93 (u32s s.list ++ R)) : W.there g 0 8 := fun j hj => ⟨by
  rw [h.cell, List.getElem?_append_left (by simp [u32s_len, St.list]; omega), List.getElem?_eq_getElem (by simp [u32s_len, St.list]; omega)]; rfl, h.free _⟩
theorem row_cells {w : World} {g : Nat} {t : TypeId} {A R : List Value} (h : Row w g t (A ++ R)) (vs : List Value) (hv : vs.length = A.length) : Row (w.setCells g 0 vs) g t (vs ++ R) := by
  have key : ∀ (vs A : List Value) (P : List Value) (w : World), Row w g t (P ++ (A ++ R)) → vs.length = A.length → Row (w.setCells g P.length vs) g t (P ++ (vs ++ R)) := by
    intro vs
    induction vs with
    | nil => intro A P w h hv; obtain rfl := List.eq_nil_of_length_eq_zero hv.symm; exact h
    | cons v r ih =>
      intro A P w h hv
      cases A with
      | nil => simp at hv
      | cons a A' =>
        have h1 := h.put P.length v
        have e : (P ++ (a :: A' ++ R)).set P.length v = (P ++ [v]) ++ (A' ++ R) := by simp
        rw [e] at h1
        have := ih A' (P ++ [v]) _ h1 (by simpa using hv)
        rw [World.setCells]
        simpa using this
  exact key vs A [] w h hv

theorem new_any (w : World) : Calls Tryd.prog 33 #[] w fun e w' => e = .returned (.pointer (some ⟨w.heap.size, 0, none⟩)) ∧ HashAt w' w.heap.size [] ∧ Below w.heap.size w w' := by
  have hz := zero53
  go_enter Tryd.func33, Tryd.ntmps33
  go_wp2
  go_ret
  refine ⟨rfl, ⟨List.replicate 64 0, ?_, rfl, rfl⟩, (Below.refl _ _).alloc (Nat.le_refl _) _⟩
  exact Row.new w _ rfl rfl

theorem hash_splice (t last x : List UInt8) (k : Nat) (hl : last.length = 64) (h : k + x.length ≤ 64) :
    splice (hashCells t last) (8 + k) (u8s x) = u32s (state t).list ++ (u8s (splice last k x) ++ [.int .u64 (t.length : Nat)]) := by
  unfold hashCells
  rw [splice_mid _ _ _ k 8 _ (by simp [u32s_len, St.list]) (by simp [u8s_len]; omega), splice_u8s]
theorem hash_set (A : List Value) (L : List UInt8) (m : Value) (v : Value) (hA : A.length = 8) (hL : L.length = 64) : (A ++ (u8s L ++ [m])).set 72 v = A ++ (u8s L ++ [v]) := by
  rw [List.set_append, if_neg (by omega), List.set_append, if_neg (by rw [u8s_len]; omega), u8s_len, hA, hL]
  rfl

theorem take_min (l : List UInt8) (a : Nat) : l.take a = l.take (min a l.length) := by
  rcases Nat.le_total a l.length with h | h
  · rw [Nat.min_eq_left h]
  · rw [Nat.min_eq_right h, List.take_of_length_le h, List.take_of_length_le (Nat.le_refl _)]
theorem next_rest {rest x : List UInt8} {k m : Nat} (hx : rest.take k = x) (hm : min k rest.length = m) : x ++ rest.drop m = rest := by
  rw [← hx, take_min, hm, List.take_append_drop]

set_option maxHeartbeats 1000000 in
set_option maxRecDepth 100000 in
theorem write_any (t bs : List UInt8) (g : Nat) (A : Option Addr) (c : Nat) (w : World) (hh : HashAt w g t) (hs : Sl w (· ≠ g) A c bs) (ht : Tab w) (hg : g ≠ 1) (hn : t.length + bs.length < 4294967296) :
    Calls Tryd.prog 34 #[.pointer (some ⟨g, 0, none⟩), .slice A bs.length c] w fun e w' => e = .returned (.tuple #[]) ∧ HashAt w' g (t ++ bs) ∧ w.grownBy w' (some g) := by
  have Hs := hide hs
  have Hh := hide hh
  have Ht := hide ht
  clear hs hh ht
  go_enter Tryd.func34, Tryd.ntmps34
  go_wp2
  go_loopw [1] (fun v wr => ∃ (done rest : List UInt8) (A : Option Addr) (c : Nat), bs = done ++ rest ∧ v = .slice A rest.length c ∧ Sl wr (fun b => b ≠ g ∧ b < w.heap.size) A c rest ∧ HashAt wr g (t ++ done) ∧ w.grownBy wr (some g)) (fun v _ => lenOf v)
  case atStart => exact ⟨[], bs, A, c, rfl, rfl, Hs.out.bound, by simpa using Hh.out, World.grownBy.refl _ _⟩
  case round =>
    obtain ⟨done, rest, A, c, hbs, rfl, hsl, hh, hgr⟩ := hrel
    by_cases hr : 0 < rest.length
    · obtain ⟨last, hh⟩ := hh
      have c72 : wr.cell? ⟨g, 72, none⟩ = some (.int .u64 ((t ++ done).length : Nat)) := by rw [hh.row.cell, hash_many _ _ hh.len]
      obtain ⟨n, hn'⟩ : ∃ n, n = (t ++ done).length := ⟨_, rfl⟩
      rw [← hn'] at c72
      have hlt : n + rest.length < 4294967296 := by rw [hn', List.length_append]; rw [hbs, List.length_append] at hn; omega
      have Hn := hide hn'
      have Hbs := hide hbs
      clear hn' hbs
      have hmod : (n : Int) % 64 < 64 := by omega
      have hmod2 : (n : Int) % 64 ≤ 64 := by omega
      have hmod0 : 0 ≤ (n : Int) % 64 := by omega
      go_wp2
      have hmodt : (n : Int).tmod 64 = ((n % 64 : Nat) : Int) := by rw [Int.tmod_eq_emod_of_nonneg (by omega)]; omega
      have hmod3 : n % 64 ≤ 64 := by omega
      have He : Hid (((n : Int) % 64).toNat = n % 64) := by show _ = _; omega
      have Hne : Hid (¬ 64 = n % 64) := by show ¬ _; omega
      go_region_law (refine step_copy_bytes rfl (.tmp 16) (.tmp 17) 38 38 rfl 5 Tryd.underlying38 size1 g (8 + n % 64) (64 - n % 64) (64 - n % 64) c A rest _ (by simp [Act.eval, Act.put, He.out, Hne.out]) (by simp [Act.eval, Act.put]) hsl.drew (hashCells (t ++ done) last) _ hh.row.drew (by rw [hash_len _ _ hh.len]; omega) ?_)
      have hx : Hid (rest.take (64 - n % 64) = rest.take (64 - n % 64)) := rfl
      have hW : Row (wr.drew.setRow g (splice (hashCells (t ++ done) last) (8 + n % 64) (u8s (List.take (64 - n % 64) rest))).toArray) g _ _ := hh.row.drew.all _
      have hgr1 : w.grownBy (wr.drew.setRow g (splice (hashCells (t ++ done) last) (8 + n % 64) (u8s (List.take (64 - n % 64) rest))).toArray) (some g) := grown_all (grown_drew hgr) _
      have hsl1 : Sl (wr.drew.setRow g (splice (hashCells (t ++ done) last) (8 + n % 64) (u8s (List.take (64 - n % 64) rest))).toArray) (fun b => b ≠ g ∧ b < w.heap.size) A c rest :=
        hsl.drew.move fun b hb _ => setRow_other _ _ _ _ hb.1
      generalize (wr.drew.setRow g (splice (hashCells (t ++ done) last) (8 + n % 64) (u8s (List.take (64 - n % 64) rest))).toArray) = W at *
      generalize hxe : List.take (64 - n % 64) rest = x at *
      have hxm : x.length = min (64 - n % 64) rest.length := by rw [← hxe, List.length_take]
      generalize hme : min (64 - n % 64) rest.length = m at *
      have hm0 : 0 < m := by omega
      have hm1 : m ≤ rest.length := by omega
      have hm2 : n % 64 + m ≤ 64 := by omega
      have Hme := hide hme
      have Hxe := hide hxe
      have Hxm := hide hxm
      clear hme hxe hxm
      have hrow : Row W g 93 (u32s (state (t ++ done)).list ++ (u8s (splice last (n % 64) x) ++ [.int .u64 (n : Nat)])) := by
        have e := hash_splice (t ++ done) last x (n % 64) hh.len (by rw [Hxm.out]; omega)
        rw [← Hn.out] at e
        rwa [e] at hW
      have hl' : (splice last (n % 64) x).length = 64 := by rw [splice_len _ _ _ (by rw [hh.len, Hxm.out]; omega), hh.len]
      have Hl' := hide hl'
      clear hl'
      have d72 : W.cell? ⟨g, 72, none⟩ = some (.int .u64 (n : Nat)) := by
        rw [hrow.cell, List.getElem?_append_right (by simp [u32s_len, St.list]), List.getElem?_append_right (by simp [u32s_len, u8s_len, St.list, Hl'.out])]
        simp [u32s_len, u8s_len, St.list, Hl'.out]
      have e72 : W.frozen? ⟨g, 72, none⟩ = false := hrow.free _
      have hrow2 : Row (W.setCell ⟨g, 72, none⟩ (.int .u64 ((n : Int) + (m : Int)))) g 93 (u32s (state (t ++ done)).list ++ (u8s (splice last (n % 64) x) ++ [.int .u64 ((n : Int) + (m : Int))])) := by
        have := hrow.put 72 (.int .u64 ((n : Int) + (m : Int)))
        rwa [hash_set _ _ _ _ (by simp [u32s_len, St.list]) Hl'.out] at this
      have Hh := hide hh
      have Hr := hide hrow2
      have Hs1 := hide hsl1
      have Hg1 := hide hgr1
      clear hh hrow hrow2 hsl1 hgr1 hW c72 hsl
      by_cases hfull : (n + m) % 64 = 0
      · have hb1 : (((n : Int) + (m : Int)) % 64 == 0) = true := by rw [beq_iff_eq]; omega
        have Hf := hide hfull
        clear hfull
        by_cases hcm : c = m
        all_goals
          go_wp2
          have Hg2 := hide (grown_put (i := 72) Hg1.out (.int .u64 ((n : Int) + (m : Int))))
          have Hs2 := hide (Hs1.out.move (w' := W.setCell ⟨g, 72, none⟩ (.int .u64 ((n : Int) + (m : Int)))) fun b hb _ => Below.heap_setCell W ⟨g, 72, none⟩ _ b hb.1)
          generalize W.setCell ⟨g, 72, none⟩ (.int .u64 ((n : Int) + (m : Int))) = W2 at *
          generalize hst : state (t ++ done) = st at *
          have hso : st.ok := by rw [← hst]; exact blocks_ok _ _
          generalize hL : splice last (n % 64) x = L at *
          have Hst := hide hst
          have Hso := hide hso
          have HL := hide hL
          clear hst hso hL
          have Ht2 := hide ((Ht.out.grown Hg2.out hg).drew)
          refine Rg.wp_region_txt (fun w' => Row w' g 93 (u32s st.list ++ (u8s L ++ [.int .u64 ((n : Int) + (m : Int))]))) [true, true, true, true, true, true, true, true, true, false, false, true, true, false] (by kernel_rfl) (by kernel_rfl) ?_
          simp only [List.zip_cons_cons, List.zip_nil_right]
          have hS := hide Hr.out.drew
          iterate 4 (refine Rg.txt_quiet (v := ?_) rfl (fun w' _ => ?_) hS.out ?_; rotate_left; (go_simp; with_reducible rfl))
          refine Rg.txt_load rfl 90 (.tmp 40) rfl g 0 (by simp [Act.eval, Act.put]) (u32s st.list) _ (fun w' h => range_sums h) Tryd.underlying90 rfl (size8.trans rfl) hS.out ?_
          iterate 3 (refine Rg.txt_quiet (v := ?_) rfl (fun w' _ => ?_) hS.out ?_; rotate_left; (go_simp; with_reducible rfl))
          refine Rg.txt_load rfl 91 (.tmp 44) rfl g 8 (by simp [Act.eval, Act.put]) (u8s L) _ (fun w' h => range_last h) Tryd.underlying91 rfl (size64b.trans (by rw [u8s_len, Hl'.out])) hS.out ?_
          refine Rg.txt_loud rfl (fun K hK => ?_)
          go_simp
          refine (spread_any _ _ Hl'.out).mono ?_
          rintro e w1 ⟨rfl, hb1⟩
          have hr1 := hide (Hr.out.drew.below hb1 Hr.out.drew.lt)
          have ht1 := hide (Ht2.out.below hb1)
          have hg1 := hide (grown_below (grown_drew Hg2.out) hb1)
          have hbb1 := hide hb1
          clear hb1
          refine hK _ _ (fun _ => hr1.out) ?_
          clear hK K
          refine Rg.txt_loud rfl (fun K hK => ?_)
          go_simp
          refine (mix_any _ _ _ Hso.out (ext_len _ _) (ext_lt _ _) ht1.out).mono ?_
          rintro e w2 ⟨rfl, hb2⟩
          have hr2 := hide (hr1.out.below hb2 hr1.out.lt)
          have hg2 := hide (grown_below hg1.out hb2)
          have hbb2 := hide hb2
          clear hb2
          refine hK _ _ (fun _ => hr2.out) ?_
          clear hK K
          iterate 2 (refine Rg.txt_quiet (v := ?_) rfl (fun w' _ => ?_) hr2.out ?_; rotate_left; (go_simp; with_reducible rfl))
          refine Rg.txt_store rfl 90 (.tmp 49) (.tmp 47) rfl g 0 (u32s (mix st (ext L 64)).list).toArray (by simp [Act.eval, Act.put]) (by simp [Act.eval, Act.put]) (there_sums hr2.out) (size8.trans rfl) (u32s_all _) ⟨Rg.not_sink (by kernel_rfl), Rg.txt_nil ?_⟩
          simp only [Act.put, List.setIfInBounds_toArray, List.set_cons_succ, List.set_cons_zero]
          go_wp2
          go_roundw
          case rel =>
            have hw2 : ∀ b, (b ≠ g ∧ b < w.heap.size) → b < W2.heap.size → (w2.setCells g 0 (u32s (mix st (ext L 64)).list)).heap[b]? = W2.heap[b]? := fun b hb hb2 => by
              rw [cells_other (by have := hbb1.out.size; have := hbb2.out.size; have : W2.drew.heap.size = W2.heap.size := rfl; omega) hb.1, hbb2.out.block b (by have := hbb1.out.size; have : W2.drew.heap.size = W2.heap.size := rfl; omega), hbb1.out.block b hb2]; rfl
            have hcut := (Hs2.out.move hw2).cut hm1
            have hrest := next_rest Hxe.out Hme.out
            have htf := tail_full (t := t ++ done) (x := x) (last := last) Hh.out.len Hh.out.tail (by rw [← Hn.out, Hxm.out]; have := Hf.out; omega)
            have hnm : (t ++ (done ++ x)).length = n + m := by rw [← List.append_assoc, List.length_append, ← Hn.out, Hxm.out]
            rw [← Hn.out, HL.out, Hst.out] at htf
            refine ⟨done ++ x, rest.drop m, _, _, by rw [Hbs.out, List.append_assoc, hrest], ?_, hcut, ⟨L, ?_, Hl'.out, ?_⟩, grown_cells hg2.out _ _⟩
            · simp [hcm, List.length_drop]
            · have hq := row_cells hr2.out (u32s (mix st (ext L 64)).list) (by simp [u32s_len, St.list])
              unfold hashCells
              rw [hnm, show t ++ (done ++ x) = t ++ done ++ x from by rw [List.append_assoc], htf.2]
              simpa using hq
            · rw [hnm, Hf.out, List.take_zero, List.drop_of_length_le (by rw [hnm]; have := Hf.out; omega)]
          case measure => simp [lenOf]; omega
      · have hb1 : (((n : Int) + (m : Int)) % 64 == 0) = false := by rw [beq_eq_false_iff_ne]; omega
        have Hf := hide hfull
        clear hfull
        by_cases hcm : c = m
        all_goals
          go_wp2
          have Hg2 := hide (grown_put (i := 72) Hg1.out (.int .u64 ((n : Int) + (m : Int))))
          have Hs2 := hide (Hs1.out.move (w' := W.setCell ⟨g, 72, none⟩ (.int .u64 ((n : Int) + (m : Int)))) fun b hb _ => Below.heap_setCell W ⟨g, 72, none⟩ _ b hb.1)
          generalize W.setCell ⟨g, 72, none⟩ (.int .u64 ((n : Int) + (m : Int))) = W2 at *
          go_roundw
          case rel =>
            have hcut := Hs2.out.cut hm1
            have hrest := next_rest Hxe.out Hme.out
            have htf := tail_part (t := t ++ done) (x := x) (last := last) Hh.out.len Hh.out.tail (by rw [← Hn.out, Hxm.out]; have := Hf.out; omega)
            have hnm : (t ++ (done ++ x)).length = n + m := by rw [← List.append_assoc, List.length_append, ← Hn.out, Hxm.out]
            refine ⟨done ++ x, rest.drop m, _, _, by rw [Hbs.out, List.append_assoc, hrest], ?_, hcut, ⟨splice last (n % 64) x, ?_, Hl'.out, ?_⟩, Hg2.out⟩
            · simp [hcm, List.length_drop]
            · unfold hashCells
              rw [hnm, show t ++ (done ++ x) = t ++ done ++ x from by rw [List.append_assoc], htf.2]
              simpa using Hr.out
            · rw [← Hn.out] at htf
              rw [← List.append_assoc]
              exact htf.1
          case measure => simp [lenOf]; omega
    · obtain rfl : rest = [] := List.eq_nil_of_length_eq_zero (by omega)
      have Hbs := hide hbs
      have Hh2 := hide hh
      have Hg2 := hide hgr
      clear hbs hh hgr hsl hr
      go_wp2
      go_end0
      exact ⟨rfl, by rw [Hbs.out, List.append_nil]; exact Hh2.out, Hg2.out⟩
end Go.Proofs.YtcmjdepjckhpdabDoor.Dg
