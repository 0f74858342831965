/-
  Whatever is done with a disk, what is told, and what it has, is as the document says: the law DiskPlays.
-/
import Derived.Test.YtahcokfoifdlmaaSM
import Derived.Test.YtahcokfoifdlmaaSG
namespace Go.Proofs.Ytahcokfoifdlmaa.Dk
open Go Go.RowKit Kt Kg Wr Lw

theorem rt_cells {w : World} {S : Nat → Prop} {g : Nat} {r : Rt} (h : RtIn w S g r) : ∃ A c, w.cell? ⟨g, 0, none⟩ = some (.slice A r.k.length c) ∧ w.cell? ⟨g, 4, none⟩ = some (.bool r.dead) ∧ Sl w (fun b => S b ∧ b ≠ g) A c r.k := by
  obtain ⟨v, hr, ho, _⟩ := h
  obtain ⟨A, c, rfl, hs⟩ := ho.sl
  exact ⟨A, c, hr.cell 0, hr.cell 4, hs⟩
theorem rt_start (w : World) (n : Nat) : RtIn (w.alloc (.cells #[.slice none 0 0, .int .i64 (n : Int), .bool false, .int .i64 0, .bool false] tR)) (· = w.heap.size) w.heap.size ⟨[], n, false, 0, false⟩ :=
  ⟨.slice none 0 0, Row.fresh w tR _, OwnS.nil _ _ _, rfl, fun k hk => by rw [hk, World.size_alloc]; exact Nat.lt_succ_self _⟩
/-- both disks, side by side -/
def Pair (w0 : World) (n g gr : Nat) (l : List Op) (w : World) : Prop :=
  ∃ Sd Sr, DkIn w Sd g (run (new n) l) ∧ RtIn w Sr gr (rrun ⟨[], n, false, 0, false⟩ l) ∧ (∀ k, Sd k → ¬ Sr k) ∧ (∀ k, Sd k → w0.heap.size ≤ k) ∧ (∀ k, Sr k → w0.heap.size ≤ k) ∧ Below w0.heap.size w0 w
theorem Pair.below {w0 w w' : World} {n g gr : Nat} {l : List Op} (h : Pair w0 n g gr l w) (hb : Below w.heap.size w w') : Pair w0 n g gr l w' := by
  obtain ⟨Sd, Sr, h1, h2, h3, h4, h5, h6⟩ := h
  exact ⟨Sd, Sr, h1.below hb, h2.below hb, h3, h4, h5, h6.trans (hb.mono h6.size)⟩
set_option maxHeartbeats 4000000 in
set_option maxRecDepth 100000 in
theorem plays_out (room : Int) (L : List Op) (A : Option Addr) (c : Nat) (w : World) (hs : Ops w A c L) (hl : L.length ≤ 9223372036854775807) (hr : few L = false ∨ 1000 < room ∨ room < 0) :
    Calls Try.prog 3 #[.int .i64 room, .slice A L.length c] w fun y w' => y = .returned (.bool true) ∧ Below w.heap.size w w' := by
  have HWk := hide (wake_any w)
  have HFew := hide (fun (wz : World) (h : Below w.heap.size w wz) => few_any L A c wz (hs.keep h) hl)
  obtain ⟨N, hN⟩ : ∃ N, N = L.length := ⟨_, rfl⟩
  rw [← hN] at HFew ⊢
  have HR := hide hr
  clear hs hl hN hr
  generalize few L = fw at *
  go_enter Try.func3, Try.ntmps3
  go_wp2_with fail
  refine HWk.out.mono ?_
  rintro y w1 ⟨rfl, hb1⟩
  have HB1 := hide hb1
  clear hb1 HWk
  go_wp2_with fail
  refine (HFew.out w1 HB1.out).mono ?_
  rintro y w2 ⟨rfl, hb2⟩
  have HB2 := hide (HB1.out.trans (hb2.mono HB1.out.size))
  clear hb2 HFew HB1
  cases fw with
  | false =>
    go_wp2
    go_ret
    exact ⟨rfl, HB2.out⟩
  | true =>
    have hrr : 1000 < room ∨ room < 0 := HR.out.resolve_left (by decide)
    clear HR
    by_cases h1 : 1000 < room
    · have d1 : decide (1000 < room) = true := decide_eq_true h1
      by_cases h2 : room ≤ 16777216
      · have d2 : decide (room ≤ 16777216) = true := decide_eq_true h2
        clear hrr
        go_wp2
        go_ret
        exact ⟨rfl, HB2.out⟩
      · have d2 : decide (room ≤ 16777216) = false := decide_eq_false h2
        have d3 : decide (16777216 < room) = true := decide_eq_true (by omega)
        have d4 : decide (room < 0) = false := decide_eq_false (by omega)
        have HN := hide (new_no room (.inr (by omega)) w2)
        clear hrr
        go_wp2_with fail
        refine HN.out.mono ?_
        rintro y w3 ⟨rfl, rfl⟩
        go_wp2
        go_ret
        exact ⟨rfl, HB2.out⟩
    · have h2 : room < 0 := hrr.resolve_left h1
      have d1 : decide (1000 < room) = false := decide_eq_false h1
      have d4 : decide (room < 0) = true := decide_eq_true h2
      have HN := hide (new_no room (.inl h2) w2)
      clear hrr
      go_wp2_with fail
      refine HN.out.mono ?_
      rintro y w3 ⟨rfl, rfl⟩
      go_wp2
      go_ret
      exact ⟨rfl, HB2.out⟩
set_option maxHeartbeats 8000000 in
set_option maxRecDepth 100000 in
theorem plays_in (n : Nat) (L : List Op) (A : Option Addr) (c : Nat) (w : World) (hs : Ops w A c L) (hsm : ∀ o ∈ L, o.small) (hl : L.length ≤ 9223372036854775807) (hr : n ≤ 1000) (hfe : few L = true) :
    Calls Try.prog 3 #[.int .i64 (n : Int), .slice A L.length c] w fun y w' => y = .returned (.bool true) ∧ Below w.heap.size w w' := by
  have HWk := hide (wake_any w)
  have HFew := hide (fun (wz : World) (h : Below w.heap.size w wz) => few_any L A c wz (hs.keep h) hl)
  have HNew := hide (fun wz => new_yes n (by omega) wz)
  have Hs := hide hs
  have Hsm := hide hsm
  have Hfs := hide (few_is hfe).2
  have hN40 := (few_is hfe).1
  rw [hfe] at HFew
  obtain ⟨N, hN⟩ : ∃ N, N = L.length := ⟨_, rfl⟩
  rw [← hN] at hl HFew hN40 ⊢
  have HN := hide hN
  have d1 : decide ((1000 : Int) < (n : Int)) = false := decide_eq_false (by omega)
  have d1' : ¬ 1000 < n := by omega
  have d2 : decide ((n : Int) < 0) = false := decide_eq_false (by omega)
  have d3 : decide ((16777216 : Int) < (n : Int)) = false := decide_eq_false (by omega)
  have d3' : ¬ 16777216 < n := by omega
  clear hs hsm hN hfe
  go_enter Try.func3, Try.ntmps3
  go_wp2_with fail
  refine HWk.out.mono ?_
  rintro y w1 ⟨rfl, hb1⟩
  have HB1 := hide hb1
  clear hb1 HWk
  go_wp2_with fail
  refine (HFew.out w1 HB1.out).mono ?_
  rintro y w2 ⟨rfl, hb2⟩
  have HB2 := hide (HB1.out.trans (hb2.mono HB1.out.size))
  clear hb2 HFew HB1
  go_wp2_with fail
  refine (HNew.out w2).mono ?_
  rintro y w3 ⟨g, rfl, hD, hg, hb3⟩
  obtain ⟨w4, hw⟩ : ∃ z, z = w3.alloc (.cells #[.slice none 0 0, .int .i64 (n : Int), .bool false, .int .i64 0, .bool false] tR) := ⟨_, rfl⟩
  obtain ⟨gr, hgr⟩ : ∃ z, z = w3.heap.size := ⟨_, rfl⟩
  have HPr := hide (show Pair w n g gr (L.take 0) w4 from by
    have hb4 := (Below.refl w3.heap.size w3).alloc (Nat.le_refl _) (.cells #[.slice none 0 0, .int .i64 (n : Int), .bool false, .int .i64 0, .bool false] tR)
    have hrt := rt_start w3 n
    rw [← hw] at hb4 hrt
    rw [← hgr] at hrt
    have hlt := hD.lt g rfl
    have h2 := HB2.out.size
    have h3 := hb3.size
    exact ⟨_, _, hD.below hb4, hrt, fun k e e' => by omega, fun k e => by omega, fun k e => by omega, (HB2.out.trans (hb3.mono h2)).trans (hb4.mono (by omega))⟩)
  have HW := hide hw
  have HGr := hide hgr
  clear hD hg hb3 HB2 HNew hw hgr
  go_wp2_with (first | rw [← HW.out, ← HGr.out] | fail)
  go_loopw [10] (fun i wr => ∃ k : Nat, k ≤ N ∧ i = .int .i64 k ∧ Pair w n g gr (L.take k) wr) (fun i _ => N - (intOf i).toNat)
  case atStart => exact ⟨0, Nat.zero_le _, rfl, HPr.out⟩
  case round =>
    obtain ⟨k, hk, rfl, Sd, Sr, hD, hT, hap, hlod, hlor, hb⟩ := hrel
    have HD := hide hD
    have HT := hide hT
    have HAp := hide hap
    have HLd := hide hlod
    have HLr := hide hlor
    have Hb := hide hb
    have HX := hide (run_fit (new_fit (show n ≤ 16777216 by omega)) (L.take k) fun o ho => Hsm.out o (List.mem_of_mem_take ho))
    have HRel := hide (Rel.run (Rel.new n) (new_fit (show n ≤ 16777216 by omega)) (L.take k) fun o ho => Hsm.out o (List.mem_of_mem_take ho))
    have HRm := hide (run_room (new n) (L.take k))
    have HNx := hide (fun (h : k < L.length) => take_step L k h (new n))
    have HNr := hide (fun (h : k < L.length) => rtake_step L k h ⟨[], n, false, 0, false⟩)
    generalize run (new n) (L.take k) = s at *
    generalize rrun ⟨[], n, false, 0, false⟩ (L.take k) = r at *
    clear hD hT hap hlod hlor hb
    by_cases hlt : k < N
    · obtain ⟨b, o, e, Ae, ce, rfl, hke, ⟨c0, c1, c2⟩, hv⟩ := Hs.out.at Hb.out (k := k) (by have := HN.out; omega)
      have hkl : k < L.length := by have := HN.out; omega
      have hes : e.small := Hsm.out e (List.mem_of_getElem? hke)
      have heb : e.b.length ≤ 40 := Hfs.out e (List.mem_of_getElem? hke)
      have hge : L.getD k ⟨0, [], 0⟩ = e := by simp [List.getD_eq_getElem?_getD, hke]
      have HNx2 := hide (HNx.out hkl)
      have HNr2 := hide (HNr.out hkl)
      rw [hge] at HNx2 HNr2
      have HP := hide (do_any HD.out HX.out e Ae ce _ hv)
      have HbL := hide (show b < w.heap.size from by
        obtain ⟨b', o', he', hlt', _⟩ := Hs.out.2 (by omega)
        injection he' with he'
        injection he' with he' _ _
        rw [he']; exact hlt')
      have HRd := hide (fun (wz : World) (h : RtIn wz Sr gr r) (hz : Sl wz (fun b => b < w.heap.size) Ae ce e.b) => rdo_any h (HRel.out.fits HX.out) e Ae ce _ hz (fun b h1 h2 => by have := HLr.out b h2; omega) (by omega))
      have hst := Rel.step HRel.out HX.out e hes
      have HRel2 := hide hst.1
      have HEr := hide hst.2
      have HX2 := hide (step_fit HX.out hes)
      have HRm2 := hide (show (step s e).1.room = n from (step_room s e).trans HRm.out)
      have HV := hide hv
      obtain ⟨Mb, hMb⟩ : ∃ Mb, Mb = e.b.length := ⟨_, rfl⟩
      rw [← hMb] at HP HRd c1
      clear hke hv hge hes heb HNx HNr hMb hst HX HRel HRm
      go_wp2_with fail
      refine HP.out.mono ?_
      rintro y w5 ⟨rfl, Sd', hD5, hO5, hS5⟩
      have HD5 := hide hD5
      have HT5 := hide (HT.out.oth hO5 fun k h1 h2 => HAp.out k h2 h1)
      have HAp5 := hide (ap hS5 HAp.out HT.out.lt)
      have HLd5 := hide (lo hS5 HLd.out Hb.out.size)
      have HB5 := hide (oth_low hO5 Hb.out HLd.out)
      have HV5 := hide (HV.out.move (w' := w5) fun b hb _ => hO5.block b (by have := Hb.out.size; omega) fun h => by have := HLd.out b h; omega)
      have hblk := hO5.block b (by have := Hb.out.size; have := HbL.out; omega) fun h => by have := HLd.out b h; have := HbL.out; omega
      have c0' := (World.cell?_of_block (a := ⟨b, o + k * 3, none⟩) hblk).trans c0
      have c1' := (World.cell?_of_block (a := ⟨b, o + k * 3 + 1, none⟩) hblk).trans c1
      have c2' := (World.cell?_of_block (a := ⟨b, o + k * 3 + 2, none⟩) hblk).trans c2
      clear hD5 hO5 hS5 hblk HP c0 c1 c2 HD HT HAp HLd Hb HV
      rw [HEr.out]
      go_wp2_with fail
      refine (HRd.out w5 HT5.out HV5.out).mono ?_
      rintro y w6 ⟨rfl, Sr', hT6, hO6, hS6⟩
      have HL5 := hide HD5.out.lt
      have HPr2 := hide (show Pair w n g gr (L.take (k + 1)) w6 from by
        unfold Pair
        rw [HNx2.out, HNr2.out]
        exact ⟨Sd', Sr', HD5.out.oth hO6 fun k h1 h2 => HAp5.out k h1 h2, hT6, fun k h1 h2 => ap hS6 (fun k h1 h2 => HAp5.out k h2 h1) HL5.out k h2 h1, HLd5.out, lo hS6 HLr.out HB5.out.size, oth_low hO6 HB5.out HLr.out⟩)
      have HD6 := hide (HD5.out.oth hO6 fun k h1 h2 => HAp5.out k h1 h2)
      have HT6 := hide hT6
      have HB6 := hide (oth_low hO6 HB5.out HLr.out)
      clear hT6 hO6 hS6 HRd HD5 HT5 HAp5 HLd5 HB5 HV5 c0' c1' c2' HNx2 HNr2 HEr
      generalize (rstep r e).2 = er at *
      generalize (rstep r e).1 = r' at *
      generalize (step s e).1 = s' at *
      obtain ⟨Ar, cr, hc0, hc4, hsr⟩ := rt_cells HT6.out
      rw [HRel2.out.k] at hc0 hsr
      rw [HRel2.out.dead] at hc4
      have HSr := hide hsr
      have HZd := hide (dead_any HD6.out)
      have HZs := hide (size_any HD6.out)
      have HZl := hide (left_any HD6.out HX2.out)
      have HlS := hide (show s'.k.length ≤ 9223372036854775807 by have := HX2.out.1; have := HX2.out.2.1; omega)
      have hfit := HX2.out.1
      obtain ⟨Kn, hKn⟩ : ∃ Kn, Kn = s'.k.length := ⟨_, rfl⟩
      rw [← hKn] at hc0 HZs HZl hfit
      rw [HRm2.out] at HZl hfit
      obtain ⟨R, hR⟩ : ∃ R, R = n - Kn := ⟨_, rfl⟩
      rw [← hR] at HZl
      have hwR : IntKind.i64.wrap ((n : Int) - (Kn : Int)) = (R : Int) := by rw [IntWalk.i64_in _ (by omega)]; omega
      generalize hdd : s'.dead = dd at *
      have hbd : (dd != dd) = false := by simp
      have HKn := hide hKn
      obtain ⟨w7, hw7⟩ : ∃ z, z = w6.drew := ⟨_, rfl⟩
      have c0 : w7.cell? ⟨gr, 0, none⟩ = some (.slice Ar Kn cr) := by rw [hw7]; exact hc0
      have c4 : w7.cell? ⟨gr, 4, none⟩ = some (.bool dd) := by rw [hw7]; exact hc4
      have HZd7 := hide (show Calls Try.prog 13 #[.pointer (some ⟨g, 0, none⟩)] w7 fun y w' => y = .returned (.bool dd) ∧ w7 = w' by rw [hw7, ← hdd]; exact dead_any (show DkIn w6.drew Sd' g s' from HD6.out))
      have HZs7 := hide (show Calls Try.prog 14 #[.pointer (some ⟨g, 0, none⟩)] w7 fun y w' => y = .returned (.int .i64 (Kn : Nat)) ∧ w7 = w' by rw [hw7, hKn]; exact size_any (show DkIn w6.drew Sd' g s' from HD6.out))
      have HZl7 := hide (show Calls Try.prog 15 #[.pointer (some ⟨g, 0, none⟩)] w7 fun y w' => y = .returned (.int .i64 (R : Nat)) ∧ ∃ m, w' = w7.drewN m by
        have := left_any (show DkIn w6.drew Sd' g s' from HD6.out) HX2.out
        rw [HRm2.out, ← hKn, ← hR] at this
        rw [hw7]; exact this)
      have HD7 := hide (show DkIn w7 Sd' g s' by rw [hw7]; exact HD6.out)
      have HSr7 := hide (show Sl w7 (fun b => Sr' b ∧ b ≠ gr) Ar cr s'.k by rw [hw7]; exact HSr.out)
      have HB7 := hide (show Below w6.heap.size w6 w7 by rw [hw7]; exact (Below.refl _ w6).drew)
      have HDR := hide (hw7.symm)
      clear hc0 hc4 hsr hfit hKn hR hdd hw7 HZd HZs HZl HSr
      go_wp2
      refine Rg.wp_region_ord (fun w' => w'.cell? ⟨gr, 0, none⟩ = some (.slice Ar Kn cr) ∧ w'.cell? ⟨gr, 4, none⟩ = some (.bool dd)) [(0, true), (1, true), (2, true), (3, true), (4, true), (6, true), (7, true), (8, true), (9, true), (5, false), (10, true), (11, true), (12, true), (13, true), (15, true), (16, true), (17, true), (18, true), (19, true), (14, false), (20, true), (21, true), (22, true), (23, true), (25, true), (26, true), (27, true), (28, true), (29, true), (30, true), (31, true), (24, false), (32, true), (33, true), (34, true), (35, true), (37, true), (38, true), (39, true), (40, true), (36, false), (41, false), (42, true), (43, true)] (by kernel_rfl) (by kernel_rfl) ?_
      simp only [Rg.pick, List.map_cons, List.map_nil, List.getD_cons_zero, List.getD_cons_succ]
      rw [HDR.out]
      iterate 4 (refine Rg.ord_quiet (v := ?_) rfl (fun w' hS => ?_) ⟨c0, c4⟩ ?_; rotate_left; (obtain ⟨s1, s2⟩ := hS; go_simp; with_reducible rfl); simp only [Act.put, List.setIfInBounds_toArray, List.set_cons_succ, List.set_cons_zero])
      iterate 5 (refine Rg.ord_guarded (v := ?_) (by rfl) (fun w' hS => ?_) ⟨c0, c4⟩ ?_; rotate_left; (obtain ⟨s1, s2⟩ := hS; go_simp; with_reducible rfl); simp only [Act.put, List.setIfInBounds_toArray, List.set_cons_succ, List.set_cons_zero])
      refine Rg.ord_loud (by rfl) (fun K hK => ?_)
      go_simp
      refine HZd7.out.mono ?_
      rintro y w8 ⟨rfl, rfl⟩
      refine hK _ _ (fun _ => ⟨c0, c4⟩) ?_
      clear hK K
      iterate 1 (refine Rg.ord_guarded (v := ?_) (by rfl) (fun w' hS => ?_) ⟨c0, c4⟩ ?_; rotate_left; (obtain ⟨s1, s2⟩ := hS; go_simp; with_reducible rfl); simp only [Act.put, List.setIfInBounds_toArray, List.set_cons_succ, List.set_cons_zero])
      iterate 2 (refine Rg.ord_quiet (v := ?_) rfl (fun w' hS => ?_) ⟨c0, c4⟩ ?_; rotate_left; (obtain ⟨s1, s2⟩ := hS; go_simp; with_reducible rfl); simp only [Act.put, List.setIfInBounds_toArray, List.set_cons_succ, List.set_cons_zero])
      iterate 6 (refine Rg.ord_guarded (v := ?_) (by rfl) (fun w' hS => ?_) ⟨c0, c4⟩ ?_; rotate_left; (obtain ⟨s1, s2⟩ := hS; go_simp; with_reducible rfl); simp only [Act.put, List.setIfInBounds_toArray, List.set_cons_succ, List.set_cons_zero])
      refine Rg.ord_loud (by rfl) (fun K hK => ?_)
      go_simp
      refine HZs7.out.mono ?_
      rintro y w8 ⟨rfl, rfl⟩
      refine hK _ _ (fun _ => ⟨c0, c4⟩) ?_
      clear hK K
      iterate 1 (refine Rg.ord_guarded (v := ?_) (by rfl) (fun w' hS => ?_) ⟨c0, c4⟩ ?_; rotate_left; (obtain ⟨s1, s2⟩ := hS; go_simp; with_reducible rfl); simp only [Act.put, List.setIfInBounds_toArray, List.set_cons_succ, List.set_cons_zero])
      iterate 2 (refine Rg.ord_quiet (v := ?_) rfl (fun w' hS => ?_) ⟨c0, c4⟩ ?_; rotate_left; (obtain ⟨s1, s2⟩ := hS; go_simp; with_reducible rfl); simp only [Act.put, List.setIfInBounds_toArray, List.set_cons_succ, List.set_cons_zero])
      iterate 8 (refine Rg.ord_guarded (v := ?_) (by rfl) (fun w' hS => ?_) ⟨c0, c4⟩ ?_; rotate_left; (obtain ⟨s1, s2⟩ := hS; go_simp; with_reducible rfl); simp only [Act.put, List.setIfInBounds_toArray, List.set_cons_succ, List.set_cons_zero])
      refine Rg.ord_loud (by rfl) (fun K hK => ?_)
      go_simp
      refine HZl7.out.mono ?_
      rintro y w8 ⟨rfl, m, hw8⟩
      have c0' : w8.cell? ⟨gr, 0, none⟩ = some (.slice Ar Kn cr) := by rw [hw8]; exact c0
      have c4' : w8.cell? ⟨gr, 4, none⟩ = some (.bool dd) := by rw [hw8]; exact c4
      have HD8 := hide (show DkIn w8 Sd' g s' by rw [hw8]; exact HD7.out)
      have HSr8 := hide (show Sl w8 (fun b => Sr' b ∧ b ≠ gr) Ar cr s'.k by rw [hw8]; exact HSr7.out)
      have HB8 := hide (show Below w6.heap.size w6 w8 by rw [hw8]; exact below_drewN HB7.out m)
      have HBy := hide (bytes_call HD8.out HX2.out)
      clear hw8 c0 c4 HD7 HSr7 HB7 HZd7 HZs7 HZl7
      have c0 := c0'
      have c4 := c4'
      clear c0' c4'
      refine hK _ _ (fun _ => ⟨c0, c4⟩) ?_
      clear hK K
      iterate 1 (refine Rg.ord_guarded (v := ?_) (by rfl) (fun w' hS => ?_) ⟨c0, c4⟩ ?_; rotate_left; (obtain ⟨s1, s2⟩ := hS; go_simp; with_reducible rfl); simp only [Act.put, List.setIfInBounds_toArray, List.set_cons_succ, List.set_cons_zero])
      iterate 2 (refine Rg.ord_quiet (v := ?_) rfl (fun w' hS => ?_) ⟨c0, c4⟩ ?_; rotate_left; (obtain ⟨s1, s2⟩ := hS; go_simp; with_reducible rfl); simp only [Act.put, List.setIfInBounds_toArray, List.set_cons_succ, List.set_cons_zero])
      iterate 5 (refine Rg.ord_guarded (v := ?_) (by rfl) (fun w' hS => ?_) ⟨c0, c4⟩ ?_; rotate_left; (obtain ⟨s1, s2⟩ := hS; go_simp; with_reducible rfl); simp only [Act.put, List.setIfInBounds_toArray, List.set_cons_succ, List.set_cons_zero])
      refine Rg.ord_loud (by rfl) (fun K hK => ?_)
      go_simp
      refine HBy.out.mono ?_
      rintro y w9 ⟨v, rfl, hown, hb9⟩
      obtain ⟨A9, c9, rfl, hs9⟩ := hown.sl
      rw [← HKn.out]
      have HT := hide (bytes_two s'.k s'.k A9 Ar Kn Kn c9 cr _ _ w9 hs9 (HSr8.out.bound.move (w' := w9) fun b hb _ => hb9.block b hb.2) HKn.out HKn.out HlS.out)
      rw [decide_eq_true rfl] at HT
      have c0' : w9.cell? ⟨gr, 0, none⟩ = some (.slice Ar Kn cr) := (World.cell?_of_block (hb9.block gr (World.block_lt_of_cell? w8 _ c0))).trans c0
      have c4' : w9.cell? ⟨gr, 4, none⟩ = some (.bool dd) := (World.cell?_of_block (hb9.block gr (World.block_lt_of_cell? w8 _ c4))).trans c4
      have HB9 := hide (HB8.out.trans (hb9.mono HB8.out.size))
      clear hown hb9 hs9 HBy HB8 HSr8 HD8 c0 c4
      have c0 := c0'
      have c4 := c4'
      clear c0' c4'
      refine hK _ _ (fun _ => ⟨c0, c4⟩) ?_
      clear hK K
      refine Rg.ord_loud (by rfl) (fun K hK => ?_)
      go_simp
      refine HT.out.mono ?_
      rintro y w10 ⟨rfl, hb10⟩
      have c0' : w10.cell? ⟨gr, 0, none⟩ = some (.slice Ar Kn cr) := (World.cell?_of_block (hb10.block gr (World.block_lt_of_cell? w9 _ c0))).trans c0
      have c4' : w10.cell? ⟨gr, 4, none⟩ = some (.bool dd) := (World.cell?_of_block (hb10.block gr (World.block_lt_of_cell? w9 _ c4))).trans c4
      have HB10 := hide (HB9.out.trans (hb10.mono HB9.out.size))
      clear hb10 HT HB9 c0 c4
      have c0 := c0'
      have c4 := c4'
      clear c0' c4'
      refine hK _ _ (fun _ => ⟨c0, c4⟩) ?_
      clear hK K
      iterate 1 (refine Rg.ord_guarded (v := ?_) (by rfl) (fun w' hS => ?_) ⟨c0, c4⟩ ?_; rotate_left; (obtain ⟨s1, s2⟩ := hS; go_simp; with_reducible rfl); simp only [Act.put, List.setIfInBounds_toArray, List.set_cons_succ, List.set_cons_zero])
      iterate 1 (refine Rg.ord_quiet (v := ?_) rfl (fun w' hS => ?_) ⟨c0, c4⟩ ?_; rotate_left; (obtain ⟨s1, s2⟩ := hS; go_simp; with_reducible rfl); simp only [Act.put, List.setIfInBounds_toArray, List.set_cons_succ, List.set_cons_zero])
      refine Rg.ord_nil ?_
      have HPe := hide (HPr2.out.below HB10.out)
      clear HPr2 HB10 c0 c4
      go_wp2
      exact ⟨⟨k + 1, by omega, by go_num, HPe.out⟩, by simp [intOf]; omega⟩
    · obtain rfl : k = N := by omega
      obtain ⟨Ar, cr, hc0, hc4, hsr⟩ := rt_cells HT.out
      rw [HRel.out.k] at hc0 hsr
      have HZ := hide (fun i : Nat => (size_any (show DkIn (wr.drewN i) Sd g s from HD.out)).mono (R' := fun y w' => y = .returned (.int .i64 (s.k.length : Nat)) ∧ w' = wr.drewN i) fun y w' h => ⟨h.1, h.2.symm⟩)
      generalize s.k.length = Kn at *
      clear hc4 hsr HNx HNr
      go_wp2
      go_quiet (with_reducible exact Calls.quiet_of_same (HZ.out _))
      go_wp2
      go_ret
      exact ⟨rfl, below_drewN Hb.out nq⟩
theorem lawPlays_any (room : Int) (L : List Op) (A : Option Addr) (c : Nat) (w : World) (hs : Ops w A c L) (hsm : ∀ o ∈ L, o.small) (hl : L.length ≤ 9223372036854775807) :
    Calls Try.prog 3 #[.int .i64 room, .slice A L.length c] w fun y w' => y = .returned (.bool true) ∧ Below w.heap.size w w' := by
  cases hfe : few L with
  | false => exact plays_out room L A c w hs hl (.inl hfe)
  | true =>
    by_cases h1 : 1000 < room ∨ room < 0
    · exact plays_out room L A c w hs hl (.inr h1)
    · obtain ⟨n, rfl⟩ : ∃ n : Nat, room = (n : Int) := ⟨room.toNat, by omega⟩
      exact plays_in n L A c w hs hsm hl (by omega) hfe
end Go.Proofs.Ytahcokfoifdlmaa.Dk
