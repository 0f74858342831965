/-
  What the reference's Of comes to.
-/
import Derived.Test.YtcmjdepjckhpdabDoorQRfD

namespace Go.Proofs.YtcmjdepjckhpdabDoor.Dg
open Go Go.RowKit Kt Sha

/-- what the reference's Of keeps from block to block: its row h, the text filled up, and the table -/
structure OfAt (w wr : World) (v : Value) (t : List UInt8) (l : List Nat) : Prop where
  h : Row wr w.heap.size 70 (u32s l)
  all : Own wr (w.heap.size + 1) 5 v t
  below : Below w.heap.size w wr
  tab : TabR wr
theorem OfAt.lt {w wr : World} {v : Value} {t : List UInt8} {l : List Nat} (h : OfAt w wr v t l) : w.heap.size < wr.heap.size := by
  have h1 := h.h
  unfold Row at h1
  exact (Array.getElem?_eq_some_iff.1 h1).1
theorem OfAt.kept {w wr w' : World} {v : Value} {t : List UInt8} {l : List Nat} (h : OfAt w wr v t l) (hb : Below wr.heap.size wr w') : OfAt w w' v t l := by
  refine ⟨?_, h.all.kept hb, h.below.trans (hb.mono h.below.size), h.tab.below hb⟩
  have h1 := h.h
  unfold Row at h1 ⊢
  rw [hb.block _ h.lt]
  exact h1

theorem chunk_get (t : List UInt8) (a j : Nat) (hj : j < 64) : ((t.drop a).take 64).getD j 0 = t.getD (a + j) 0 := by
  simp [List.getD_eq_getElem?_getD, hj]
theorem own_cap {w : World} {B g c n : Nat} {E : TypeId} {l : List UInt8} (h : Own w B E (.slice (some ⟨g, 0, none⟩) n c) l) : l.length ≤ c := by
  rcases h.2 with ⟨h1, _⟩ | ⟨g', cap, cur, hv, _, _, hnc, _⟩
  · cases h1
  · injection hv with _ _ e
    omega

theorem four_cells_r (x : Nat) (h : x < 4294967296) : (#[Value.int .u8 (IntKind.u8.wrap (IntKind.u32.wrap ((x : Int) / 16777216))), Value.int .u8 (IntKind.u8.wrap ((IntKind.u32.wrap ((x : Int) / 65536)).tmod 256)), Value.int .u8 (IntKind.u8.wrap ((IntKind.u32.wrap ((x : Int) / 256)).tmod 256)), Value.int .u8 (IntKind.u8.wrap ((x : Int).tmod 256))] : Array Value) = (u8s (four x)).toArray := by
  have e8 : ∀ n, IntKind.u8.wrap n = n % 256 := fun n => by simp [IntKind.wrap, IntKind.bits, IntKind.signed]
  rw [← four_cells x h, e8, e8, e8, e8, IntKind.wrap_u32, IntKind.wrap_u32, IntKind.wrap_u32, Int.tmod_eq_emod_of_nonneg (by omega), Int.tmod_eq_emod_of_nonneg (by omega), Int.tmod_eq_emod_of_nonneg (by omega)]
  rw [show (x : Int) / 16777216 % 4294967296 % 256 = (x : Int) / 16777216 by omega, show (x : Int) / 65536 % 4294967296 % 256 % 256 = (x : Int) / 65536 % 256 by omega, show (x : Int) / 256 % 4294967296 % 256 % 256 = (x : Int) / 256 % 256 by omega, show (x : Int) % 256 % 256 = (x : Int) % 256 by omega]
theorem _root_.Go.Proofs.YtcmjdepjckhpdabDoor.Kt.Row.cell_of {w : World} {g : Nat} {t : TypeId} {cs : List Value} (h : Row w g t cs) {i : Nat} {v : Value} (hv : cs[i]? = some v) : w.cell? ⟨g, i, none⟩ = some v := (h.cell i).trans hv
/-- the sums, when j of them are made -/
def part (s r : St) (j : Nat) : List Nat := (s.more r).list.take j ++ s.list.drop j
theorem part_zero (s r : St) : part s r 0 = s.list := rfl
theorem part_eight (s r : St) : part s r 8 = (s.more r).list := by simp [part, St.list]
theorem part_len (s r : St) (j : Nat) (h : j ≤ 8) : (part s r j).length = 8 := by simp [part, St.list]; omega
theorem part_at (s r : St) (j : Nat) (h : j < 8) : (part s r j).getD j 0 = s.list.getD j 0 := by
  rcases j with _ | _ | _ | _ | _ | _ | _ | _ | j
  all_goals first
    | omega
    | rfl
theorem part_set (s r : St) (j : Nat) (h : j < 8) : (part s r j).set j ((s.list.getD j 0 + r.list.getD j 0) % 4294967296) = part s r (j + 1) := by
  rcases j with _ | _ | _ | _ | _ | _ | _ | _ | j
  all_goals first
    | omega
    | rfl
theorem list_lt {s : St} (h : s.ok) (j : Nat) (hj : j < 8) : s.list.getD j 0 < 4294967296 := by
  obtain ⟨h0, h1, h2, h3, h4, h5, h6, h7⟩ := h
  rcases j with _ | _ | _ | _ | _ | _ | _ | _ | j
  all_goals first
    | omega
    | assumption
theorem u32s_set (l : List Nat) (j n : Nat) : (u32s l).set j (.int .u32 (n : Int)) = u32s (l.set j n) := by simp [u32s, List.map_set]
theorem own_put {w : World} {B g i : Nat} {E : TypeId} {v : Value} {l : List UInt8} (h : Own w B E v l) (hg : g < B) (u : Value) : Own (w.setCell ⟨g, i, none⟩ u) B E v l := by
  refine ⟨h.1, ?_⟩
  rcases h.2 with ⟨h1, h2⟩ | ⟨b, cap, cur, hv', h1, h2, h3⟩
  · exact .inl ⟨h1, h2⟩
  · exact .inr ⟨b, cap, cur, hv', h1, (Below.heap_setCell w ⟨g, i, none⟩ u b (by simp only; omega)).trans h2, h3⟩
theorem ownW_put {w : World} {B g i : Nat} {v : Value} {l : List Nat} (h : OwnW w B v l) (hg : g < B) (u : Value) : OwnW (w.setCell ⟨g, i, none⟩ u) B v l := by
  refine ⟨h.1, ?_⟩
  rcases h.2 with ⟨h1, h2⟩ | ⟨b, cap, cur, hv', h1, h2, h3⟩
  · exact .inl ⟨h1, h2⟩
  · exact .inr ⟨b, cap, cur, hv', h1, (Below.heap_setCell w ⟨g, i, none⟩ u b (by simp only; omega)).trans h2, h3⟩
theorem OfAt.put {w wr : World} {v : Value} {t : List UInt8} {l : List Nat} (h : OfAt w wr v t l) (ht : TabR w) (j n : Nat) : OfAt w (wr.setCell ⟨w.heap.size, j, none⟩ (.int .u32 (n : Int))) v t (l.set j n) := by
  have hb := below_put h.below (g := w.heap.size) (i := j) (Nat.le_refl _) (.int .u32 (n : Int))
  refine ⟨?_, own_put h.all (by omega) _, hb, ht.below hb⟩
  rw [← u32s_set]
  exact Row.put h.h j _
theorem OfAt.drewN {w wr : World} {v : Value} {t : List UInt8} {l : List Nat} (h : OfAt w wr v t l) (n : Nat) : OfAt w (wr.drewN n) v t l := ⟨h.h, h.all, below_drewN h.below n, h.tab⟩

set_option maxHeartbeats 4000000 in
set_option maxRecDepth 100000 in
theorem rof_any (bs : List UInt8) (A : Option Addr) (c : Nat) (Pb : Nat → Prop) (w : World) (hs : Sl w Pb A c bs) (hn : bs.length ≤ 200000) (ht : TabR w) :
    Calls Tryd.prog 15 #[.slice A bs.length c] w fun e w' => e = .returned (.string ⟨(sha bs).toArray⟩) ∧ Below w.heap.size w w' := by
  go_enter Tryd.func15, Tryd.ntmps15
  have Hs1 := hide ((hs.bound).move (w' := w.alloc (.cells (u32s first.list).toArray 70)) (fun b _ hb => Below.heap_alloc w _ b hb))
  have hfirst := first_cells.symm
  have Hf := hide hfirst
  have Ht := hide ht
  clear hs hfirst ht
  go_wp2_with (go_at_call 26; rw [Hf.out]; refine (rfilled_any bs A c _ _ Hs1.out hn).mono ?_; rintro e w2 ⟨v2, rfl, hown, hb⟩)
  have Hr0 := hide (show Row w2 w.heap.size 70 (u32s first.list) from by
    have := Row.new w 70 (g := w.heap.size) (cs := (u32s first.list).toArray) rfl rfl
    unfold Row at this ⊢
    rw [hb.block _ (by simp)]; exact this)
  have Ho := hide (show OfAt w w2 v2 (bs ++ pad bs.length) first.list from ⟨Hr0.out, by
    have h := hown
    rw [show (w.alloc (.cells (u32s first.list).toArray 70)).heap.size = w.heap.size + 1 from by simp] at h
    exact h, ((Below.refl w.heap.size w).alloc (Nat.le_refl _) _).trans (hb.mono (by simp)), (Ht.out.below ((Below.refl _ w).alloc (Nat.le_refl _) _)).below hb⟩)
  have hL64 : (bs ++ pad bs.length).length % 64 = 0 := by rw [List.length_append]; exact pad_sum _
  have hL : (bs ++ pad bs.length).length ≤ 200072 := by rw [List.length_append]; have := pad_len bs.length; omega
  have hL0 : 0 < (bs ++ pad bs.length).length := by simp [pad]; omega
  clear hown hb Hr0
  have Hsha : Hid (sha bs = (blocks (bs ++ pad bs.length) ((bs ++ pad bs.length).length / 64)).bytes) := rfl
  obtain ⟨T, hT⟩ : ∃ T, T = bs ++ pad bs.length := ⟨_, rfl⟩
  rw [← hT] at Ho hL64 hL hL0 Hsha
  clear hT
  obtain ⟨g, cap, rfl, hg1, hg2⟩ := Ho.out.all.form hL0
  go_loopw [5] (fun at_ wr => ∃ n : Nat, n ≤ T.length / 64 ∧ at_ = .int .i64 (64 * n : Nat) ∧ OfAt w wr (.slice (some ⟨g, 0, none⟩) T.length cap) T (blocks T n).list) (fun at_ _ => 210000 - (intOf at_).toNat)
  case atStart => exact ⟨0, Nat.zero_le _, rfl, Ho.out⟩
  case round =>
    obtain ⟨n, hn1, rfl, ho⟩ := hrel
    have Hr := hide ho
    clear ho
    by_cases hlt : n < T.length / 64
    · obtain ⟨q, hq⟩ : ∃ q, q = 64 * n := ⟨_, rfl⟩
      rw [← hq]
      have hcap := own_cap Hr.out.all
      have hqT : (q : Int) < (T.length : Int) := by omega
      have hq64 : IntKind.i64.wrap ((q : Int) + 64) = (q : Int) + 64 := IntWalk.i64_in _ (by omega)
      have q1 : (q : Int) + 64 ≤ cap := by omega
      have q2 : (0 : Int) ≤ q := by omega
      have hcells := hide (fun (j : Nat) (hj : j < 64) => (Hr.out.all.cells (64 * n + j) (by omega)).trans (by rw [chunk_get T (64 * n) j hj]) : ∀ j, j < 64 → wr.cell? ⟨g, 64 * n + j, none⟩ = some (.int .u8 ((((T.drop (64 * n)).take 64).getD j 0).toNat : Int)))
      go_wp2_with (first
        | (go_at_call 27
           refine (rspread_any ((T.drop (64 * n)).take 64) g (64 * n) _ wr hcells.out).mono ?_
           rintro e w3 ⟨v3, rfl, hw3, hb3⟩
           have Hw3 := hide hw3
           have Hr3 := hide (Hr.out.kept hb3)
           have hba := (Below.refl w3.heap.size w3).alloc (Nat.le_refl _) (.cells #[] 70)
           have Hba := hide hba
           have Hr4 := hide (Hr3.out.kept hba)
           have Hw4 := hide (hw3.kept hba)
           have Hmade := hide (OwnW.made w3 w3.heap.size (Nat.le_refl _))
           clear hw3 hb3 hba)
        | (refine wpList_catW rfl (.tmp 31) (.tmp 32) rfl w3.heap.size w3 _ [] (blocks T n).list w.heap.size 8 rfl rfl Hmade.out Hr4.out.h (by simp [St.list]) Hba.out (by simp) ?_
           intro v5 w5 hown5 hb5
           rw [List.nil_append] at hown5
           have Hw5 := hide (Hw3.out.kept hb5)
           have Hr5 := hide (Hr3.out.kept hb5)
           have Hv5 := hide hown5
           clear hown5 hb5))
      have Hso := hide (blocks_ok T n)
      have Hmix : Hid (blocks T (n + 1) = (blocks T n).more (rounds (ext ((T.drop (64 * n)).take 64) 64) (blocks T n) 64)) := rfl
      have Hwl := hide (ext_len ((T.drop (64 * n)).take 64) 64)
      have Hwb := hide (ext_lt ((T.drop (64 * n)).take 64) 64)
      have Hb5 := hide (show Below w.heap.size w w5 from Hr5.out.below)
      have Hg3 : Hid (w.heap.size < w3.heap.size) := hide Hr3.out.lt
      clear Hw3 Hr3 Hba Hr4 Hw4 Hmade hcells
      generalize blocks T n = s at *
      obtain ⟨ws, hws⟩ : ∃ ws, ws = ext ((T.drop (64 * n)).take 64) 64 := ⟨_, rfl⟩
      rw [← hws] at Hmix Hw5 Hwl Hwb
      clear hws
      obtain ⟨g3, c3, rfl, hg31, hg32⟩ := Hw5.out.form (by rw [Hwl.out]; omega)
      go_loopw [7, 8] (fun v i wx => ∃ k : Nat, k ≤ 64 ∧ i = .int .i64 k ∧ OwnW wx w3.heap.size v (rounds ws s k).list ∧ OwnW wx wr.heap.size (.slice (some ⟨g3, 0, none⟩) ws.length c3) ws ∧ OfAt w wx (.slice (some ⟨g, 0, none⟩) T.length cap) T s.list) (fun _ i _ => 64 - (intOf i).toNat)
      case atStart => exact ⟨0, by omega, rfl, Hv5.out, Hw5.out, Hr5.out⟩
      case round =>
        clear Hw5 Hr5 Hv5
        obtain ⟨k, hk, rfl, hv, hw, ho⟩ := hrel
        by_cases hk64 : k < 64
        · obtain ⟨gv, cv, rfl, hgv1, hgv2⟩ := hv.form (by simp [St.list])
          have Hw := hide hw
          have Ho := hide ho
          have hc0 := hv.cell 0 (by simp [St.list])
          have hc1 := hv.cell 1 (by simp [St.list])
          have hc2 := hv.cell 2 (by simp [St.list])
          have hc3 := hv.cell 3 (by simp [St.list])
          have hc4 := hv.cell 4 (by simp [St.list])
          have hc5 := hv.cell 5 (by simp [St.list])
          have hc6 := hv.cell 6 (by simp [St.list])
          have hc7 := hv.cell 7 (by simp [St.list])
          have t1 := ho.tab k hk64
          have t2 := hw.cell k (by rw [Hwl.out]; exact hk64)
          have Hsz : Hid (w3.heap.size ≤ wr.heap.size) := Nat.le_trans hgv1 (Nat.le_of_lt hgv2)
          clear hv hw ho
          have os := rounds_ok ws Hso.out k
          have Hn : Hid (rounds ws s (k + 1) = (rounds ws s k).step (keys.getD k 0) (ws.getD k 0)) := rfl
          have b1 := keys_lt k
          have b2 := getD_lt Hwb.out k
          have Hwl2 := Hwl
          generalize keys.getD k 0 = kk at *
          generalize ws.getD k 0 = ww at *
          generalize rounds ws s k = r at *
          obtain ⟨a, b, c', d, e, f, g', h⟩ := r
          obtain ⟨oa, ob, oc, od, oe, of, og, oh⟩ := os
          simp only at oa ob oc od oe of og oh
          simp only [St.list, List.getD_cons_zero, List.getD_cons_succ, List.length_cons, List.length_nil] at hc0 hc1 hc2 hc3 hc4 hc5 hc6 hc7 ⊢
          rw [Hwl2.out]
          go_wp2
          go_quiet ((go_at_call 28; exact Calls.quiet_of_same ((rturn_any _ _ _ (by assumption) (by omega) (by omega)).mono (fun _ _ h => ⟨h.1, h.2.symm⟩))))
          obtain ⟨tt, htt⟩ : ∃ tt, tt = (h + big1 e + ch e f g' + kk + ww) % 4294967296 := ⟨_, rfl⟩
          rw [big1_val oe, rch_val oe of og, show ((((h : Nat) : Int) + (big1 e : Nat) + (ch e f g' : Nat) + (kk : Nat)) % 4294967296 + (ww : Nat)) % 4294967296 = (tt : Int) from by omega]
          have ott : tt < 4294967296 := by omega
          have Htt := hide htt
          clear htt
          obtain ⟨wy, hwy⟩ : ∃ wy, wy = wr.drewN nq := ⟨_, rfl⟩
          have e1 : wy.cell? ⟨gv, 1, none⟩ = some (.int .u32 (b : Nat)) := by rw [hwy]; exact hc1
          have e2 : wy.cell? ⟨gv, 2, none⟩ = some (.int .u32 (c' : Nat)) := by rw [hwy]; exact hc2
          have e3 : wy.cell? ⟨gv, 3, none⟩ = some (.int .u32 (d : Nat)) := by rw [hwy]; exact hc3
          have e5 : wy.cell? ⟨gv, 5, none⟩ = some (.int .u32 (f : Nat)) := by rw [hwy]; exact hc5
          have e6 : wy.cell? ⟨gv, 6, none⟩ = some (.int .u32 (g' : Nat)) := by rw [hwy]; exact hc6
          rw [← hwy]
          have Hwy := hide hwy
          clear hwy hc0 hc1 hc2 hc3 hc4 hc5 hc6 hc7
          go_wp2
          go_quiet ((go_at_call 28; exact Calls.quiet_of_same ((rturn_any _ _ _ (by assumption) (by omega) (by omega)).mono (fun _ _ h => ⟨h.1, h.2.symm⟩))))
          obtain ⟨uu, huu⟩ : ∃ uu, uu = (big0 a + maj a b c') % 4294967296 := ⟨_, rfl⟩
          rw [big0_val oa, maj_val oa ob oc]
          have ouu : uu < 4294967296 := by omega
          rw [show (((big0 a : Nat) : Int) + (maj a b c' : Nat)) % 4294967296 = (uu : Int) from by omega]
          have Huu := hide huu
          clear huu
          obtain ⟨wz, hwz⟩ : ∃ wz, wz = wy.drewN nq := ⟨_, rfl⟩
          rw [← hwz]
          have hS0 := hide (show (fun w' => w'.cell? ⟨gv, 1, none⟩ = some (.int .u32 (b : Int)) ∧ w'.cell? ⟨gv, 2, none⟩ = some (.int .u32 (c' : Int)) ∧ w'.cell? ⟨gv, 3, none⟩ = some (.int .u32 (d : Int)) ∧ w'.cell? ⟨gv, 5, none⟩ = some (.int .u32 (f : Int)) ∧ w'.cell? ⟨gv, 6, none⟩ = some (.int .u32 (g' : Int))) wz.drew from by subst hwz; exact ⟨e1, e2, e3, e5, e6⟩)
          have Hwz := hide hwz
          clear hwz
          go_wp2
          refine Rc.wp_region_ord (fun w' => w'.cell? ⟨gv, 1, none⟩ = some (.int .u32 (b : Int)) ∧ w'.cell? ⟨gv, 2, none⟩ = some (.int .u32 (c' : Int)) ∧ w'.cell? ⟨gv, 3, none⟩ = some (.int .u32 (d : Int)) ∧ w'.cell? ⟨gv, 5, none⟩ = some (.int .u32 (f : Int)) ∧ w'.cell? ⟨gv, 6, none⟩ = some (.int .u32 (g' : Int)))
            [(0, true), (1, true), (2, true), (3, true), (4, true), (5, true), (6, true), (7, true), (8, true), (9, true), (10, true), (11, true), (12, true), (13, true), (14, true), (15, true), (16, true), (17, true), (18, true), (19, true), (20, true), (21, true), (22, false), (23, false)] (by kernel_rfl) (by kernel_rfl) ?_
          simp only [Rg.pick, List.map_cons, List.map_nil, List.getD_cons_zero, List.getD_cons_succ]
          iterate 22 (refine Rc.ord_quiet (v := ?_) rfl (fun w' hS => ?_) hS0.out ?_; rotate_left; (obtain ⟨d1, d2, d3, d5, d6⟩ := hS; go_simp; with_reducible rfl); simp only [Act.put, List.setIfInBounds_toArray, List.set_cons_succ, List.set_cons_zero])
          refine Rc.ord_loud rfl (fun K hK => ?_)
          go_simp
          refine hK _ _ (fun hf => absurd (show Rc.sink _ 22 = true from by kernel_rfl) (by rw [hf]; decide)) ?_
          clear hK K
          refine Rc.ord_loud rfl (fun K hK => ?_)
          go_simp
          refine hK _ _ (fun hf => absurd (show Rc.sink _ 23 = true from by kernel_rfl) (by rw [hf]; decide)) ?_
          clear hK K
          refine Rc.ord_nil ?_
          have hfr := OwnW.fresh wz.drew w3.heap.size ((⟨a, b, c', d, e, f, g', h⟩ : St).step kk ww).list (by rw [Hwz.out, Hwy.out]; exact Hsz.out) (by simp [St.list, maxLen])
          have Hfr := hide hfr
          clear hfr
          go_wp2
          go_roundw
          case rel =>
            refine ⟨k + 1, by omega, by rw [Int.natCast_add]; rfl, ?_, ?_, ?_⟩
            · have hst : ((⟨a, b, c', d, e, f, g', h⟩ : St).step kk ww).list = [(tt + uu) % 4294967296, a, b, c', (d + tt) % 4294967296, e, f, g'] := by
                rw [Htt.out, Huu.out]; rfl
              have h1 := Hfr.out
              rw [hst] at h1
              rw [Hn.out]
              change OwnW _ _ _ (((⟨a, b, c', d, e, f, g', h⟩ : St).step kk ww).list)
              rw [hst]
              exact h1
            · have h2 := Hw.out.kept (w' := wz.drew) (by rw [Hwz.out, Hwy.out]; exact (below_drewN (below_drewN (Below.refl _ _) _) _).drew)
              rw [Hwl2.out] at h2
              exact OwnW.kept (w := wz.drew) h2 ((Below.refl _ _).alloc (Nat.le_refl _) _)
            · have h3 := Ho.out.kept (w' := wz.drew) (by rw [Hwz.out, Hwy.out]; exact (below_drewN (below_drewN (Below.refl _ _) _) _).drew)
              exact OfAt.kept (wr := wz.drew) h3 ((Below.refl _ _).alloc (Nat.le_refl _) _)
          case measure => simp [intOf]; omega
        · obtain rfl : k = 64 := by omega
          rw [show ((64 : Nat) : Int) = 64 from rfl]
          obtain ⟨gv, cv, hve, hgv1, hgv2⟩ := hv.form (by simp [St.list])
          have hve' : u7 = .slice (some ⟨gv, 0, none⟩) 8 cv := hve
          subst hve'
          have Hv := hide hv
          have Ho := hide ho
          clear hv hw ho Hwb hve
          go_wp2_with fail
          obtain ⟨r, hr⟩ : ∃ r, rounds ws s 64 = r := ⟨_, rfl⟩
          rw [hr] at Hv Hmix
          have Hrok := hide (show r.ok by rw [← hr]; exact rounds_ok ws Hso.out 64)
          clear hr
          go_loopw [13] (fun i wx => ∃ j : Nat, j ≤ 8 ∧ i = .int .i64 j ∧ OwnW wx w3.heap.size (.slice (some ⟨gv, 0, none⟩) 8 cv) r.list ∧ OfAt w wx (.slice (some ⟨g, 0, none⟩) T.length cap) T (part s r j)) (fun i _ => 8 - (intOf i).toNat)
          case atStart => exact ⟨0, by omega, rfl, Hv.out, by rw [part_zero]; exact Ho.out⟩
          case round =>
            clear Hv Ho
            obtain ⟨j, hj8, rfl, hv, ho⟩ := hrel
            have Hv := hide hv
            have Ho := hide ho
            by_cases hj : j < 8
            · have f1 := Row.free ho.h j
              obtain ⟨x, hx⟩ : ∃ x, s.list.getD j 0 = x := ⟨_, rfl⟩
              obtain ⟨y, hy⟩ : ∃ y, r.list.getD j 0 = y := ⟨_, rfl⟩
              have c1 : wr.cell? ⟨w.heap.size, j, none⟩ = some (.int .u32 (x : Int)) := by
                rw [Row.cell ho.h, u32s_get _ _ (by rw [part_len s r j hj8]; exact hj), part_at s r j hj, hx]
              have c2 : wr.cell? ⟨gv, j, none⟩ = some (.int .u32 (y : Int)) := by
                rw [OwnW.cell (c := cv) hv j (by simpa [St.list] using hj), hy]
              have Hset := hide (part_set s r j hj)
              rw [hx, hy] at Hset
              have hx32 : x < 4294967296 := by rw [← hx]; exact list_lt Hso.out j hj
              have hy32 : y < 4294967296 := by rw [← hy]; exact list_lt Hrok.out j hj
              clear hv ho hx hy
              go_wp2_with fail
              refine Rg.wp_region_ord (fun w' => w'.cell? ⟨w.heap.size, j, none⟩ = some (.int .u32 (x : Int)) ∧ w'.cell? ⟨gv, j, none⟩ = some (.int .u32 (y : Int))) [(0, true), (1, true), (2, true), (3, true), (4, true), (5, true), (6, true), (7, true), (8, true), (9, true), (10, true), (11, true), (12, false)] (by kernel_rfl) (by kernel_rfl) ?_
              simp only [Rg.pick, List.map_cons, List.map_nil, List.getD_cons_zero, List.getD_cons_succ]
              iterate 12 (refine Rg.ord_quiet (v := ?_) rfl (fun w' hS => ?_) ⟨c1, c2⟩ ?_; rotate_left; (obtain ⟨s1, s2⟩ := hS; go_simp; with_reducible rfl); simp only [Act.put, List.setIfInBounds_toArray, List.set_cons_succ, List.set_cons_zero])
              refine Rg.ord_loud rfl (fun K hK => ?_)
              go_simp
              rw [show IntKind.u32.wrap ((x : Int) + (y : Int)) = (((x + y) % 4294967296 : Nat) : Int) from by simp only [IntKind.wrap, IntKind.bits, IntKind.signed]; simp]
              refine hK _ _ (fun hf => absurd (show Rg.sink _ 12 = true from by kernel_rfl) (by rw [hf]; decide)) ?_
              clear hK K
              refine Rg.ord_nil ?_
              go_wp2
              go_roundw
              case rel =>
                refine ⟨j + 1, by omega, by go_num, ownW_put Hv.out Hg3.out _, ?_⟩
                have hp := (Ho.out.put Ht.out j ((x + y) % 4294967296)).drewN 1
                rw [Hset.out] at hp
                exact hp
              case measure => simp [intOf]; omega
            · obtain rfl : j = 8 := by omega
              have Ho8 := hide (show OfAt w wr (.slice (some ⟨g, 0, none⟩) T.length cap) T (blocks T (n + 1)).list by rw [Hmix.out, ← part_eight]; exact ho)
              clear hv ho Hv Ho
              go_wp2
              go_roundw
              case rel => exact ⟨n + 1, by omega, by go_num, Ho8.out⟩
              case measure => simp [intOf]; omega
    · obtain rfl : n = T.length / 64 := by omega
      have hqe : 64 * (T.length / 64) = T.length := by omega
      rw [hqe]
      obtain ⟨q, hq⟩ : ∃ q, q = T.length := ⟨_, rfl⟩
      rw [← hq]
      have Hso := hide (blocks_ok T (T.length / 64))
      obtain ⟨s, hs⟩ : ∃ s, blocks T (T.length / 64) = s := ⟨_, rfl⟩
      rw [hs] at Hr Hso Hsha
      have hqc : q < cap + 1 := by have := own_cap Hr.out.all; omega
      have hTq : ¬ ((q : Int) < (T.length : Int)) := by omega
      have hTq2 : decide ((q : Int) < (T.length : Int)) = false := decide_eq_false (by omega)
      clear hs hqe hlt hq hn1
      go_wp2_with fail
      go_loopw [14, 15] (fun v i wx => ∃ j : Nat, j ≤ 8 ∧ i = .int .i64 j ∧ Own wx (w.heap.size + 1) 5 v ((s.list.take j).flatMap four) ∧ Row wx w.heap.size 70 (u32s s.list) ∧ Below w.heap.size w wx) (fun _ i _ => 8 - (intOf i).toNat)
      case atStart => exact ⟨0, by omega, rfl, Own.nil _ _ _, Hr.out.h, Hr.out.below⟩
      case round =>
        clear Hr
        obtain ⟨j, hj8, rfl, hv, hrow, hbel⟩ := hrel
        have Hv := hide hv
        have Hrow := hide hrow
        have Hbel := hide hbel
        by_cases hj : j < 8
        · obtain ⟨x, hx⟩ : ∃ x, s.list.getD j 0 = x := ⟨_, rfl⟩
          have Hx := hide hx
          have c1 : wr.cell? ⟨w.heap.size, j, none⟩ = some (.int .u32 (x : Int)) := by
            rw [Row.cell hrow, u32s_get _ _ (by simpa [St.list] using hj), hx]
          have hx32 : x < 4294967296 := by rw [← hx]; exact list_lt Hso.out j hj
          have Hnext := hide (bytes_take s j hj)
          rw [hx] at Hnext
          have Hlen := hide (take_len s j hj8)
          have Hfour := hide (four_cells_r x hx32)
          have Hsz := hide (show w.heap.size + 1 ≤ wr.heap.size by have := hrow.lt; omega)
          clear hv hrow hbel hx
          go_wp2_with fail
          refine Rg.wp_region_ord (fun w' => w'.cell? ⟨w.heap.size, j, none⟩ = some (.int .u32 (x : Int))) [(0, true), (1, true), (2, true), (3, true), (4, true), (5, true), (6, true), (7, true), (8, true), (9, true), (10, true), (11, true), (12, true), (13, true), (14, true), (15, true), (16, true), (17, true), (18, true), (19, true), (20, true), (21, true), (22, true), (23, true), (24, true), (25, true), (26, true), (27, false), (28, false), (29, true)] (by kernel_rfl) (by kernel_rfl) ?_
          simp only [Rg.pick, List.map_cons, List.map_nil, List.getD_cons_zero, List.getD_cons_succ]
          iterate 27 (refine Rg.ord_quiet (v := ?_) rfl (fun w' hS => ?_) c1 ?_; rotate_left; (obtain s1 := hS; go_simp; with_reducible rfl); simp only [Act.put, List.setIfInBounds_toArray, List.set_cons_succ, List.set_cons_zero])
          refine Rg.ord_loud rfl (fun K hK => ?_)
          go_simp
          refine hK _ _ (fun _ => (Hrow.out.alloc _).cell_of (by rw [u32s_get _ _ (by simpa [St.list] using hj)]; rw [Hx.out])) ?_
          clear hK K
          refine Rg.ord_push wr.drew rfl rfl (.tmp 149) (.tmp 176) 38 rfl Tryd.underlying38 info8 (w.heap.size + 1) wr.drew _ ((s.list.take j).flatMap four) (four x) 4 4 (by simp [Act.eval]) (by simp [Act.eval]) Hv.out.drew Hfour.out rfl (by rw [Hlen.out]; simp [four]; omega) (Below.refl _ _) Hsz.out ?_
          intro v1 w1 hown1 hb1 _
          have Hrow1 := hide (Hrow.out.drew.below hb1 (Nat.lt_succ_self _))
          have Hbel1 := hide (Hbel.out.drew.trans (hb1.mono (Nat.le_succ _)))
          rw [← Hnext.out] at hown1
          have Hv1 := hide hown1
          clear hown1 hb1
          have c1' : w1.cell? ⟨w.heap.size, j, none⟩ = some (.int .u32 (x : Int)) := Hrow1.out.cell_of (by rw [u32s_get _ _ (by simpa [St.list] using hj)]; rw [Hx.out])
          refine ⟨fun _ => c1', ?_⟩
          refine Rg.ord_quiet (v := ?_) rfl (fun w' _ => ?_) c1' ?_
          rotate_left
          · go_simp
            with_reducible rfl
          refine Rg.ord_nil ?_
          simp only [Act.put, List.setIfInBounds_toArray, List.set_cons_succ, List.set_cons_zero]
          clear c1 c1'
          go_wp2
          go_roundw
          case rel => exact ⟨j + 1, by omega, by go_num, Hv1.out, Hrow1.out, Hbel1.out⟩
          case measure => simp [intOf]; omega
        · obtain rfl : j = 8 := by omega
          have hcv := hv.text 38 35 5 Tryd.underlying38 Tryd.underlying5 Tryd.underlying35
          have He := hide (show (s.list.take 8).flatMap four = sha bs by rw [Hsha.out]; rfl)
          rw [He.out] at hcv
          clear hv hrow hbel
          go_wp2
          go_ret
          exact ⟨rfl, Hbel.out⟩
end Go.Proofs.YtcmjdepjckhpdabDoor.Dg
