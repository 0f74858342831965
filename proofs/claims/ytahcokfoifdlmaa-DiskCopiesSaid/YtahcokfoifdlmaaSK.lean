/-
  A copy goes on by itself: the law DiskCopies.
-/
import Derived.Test.YtahcokfoifdlmaaSI
namespace Go.Proofs.Ytahcokfoifdlmaa.Dk
open Go Go.RowKit Kt Kg Wr Lw

theorem oth_on {Z S : Nat → Prop} {wc w w' : World} (h : Oth Z wc w) (ho : Oth S w w') (hi : ∀ k, S k → Z k ∨ wc.heap.size ≤ k) : Oth Z wc w' :=
  h.trans ho fun i hlt hs => (hi i hs).resolve_right fun x => by omega
theorem on_on {S S' Z : Nat → Prop} {m n : Nat} (hS' : ∀ k, S' k → S k ∨ n ≤ k) (h : ∀ k, S k → Z k ∨ m ≤ k) (hm : m ≤ n) : ∀ k, S' k → Z k ∨ m ≤ k :=
  fun k hk => (hS' k hk).elim (h k) fun x => .inr (Nat.le_trans hm x)
/-- two copies, at work -/
def Two (wc : World) (X0 Y0 : Nat → Prop) (gx gy : Nat) (s : St) (w : World) : Prop :=
  ∃ Sx Sy, DkIn w Sx gx s ∧ DkIn w Sy gy s ∧ (∀ k, Sx k → ¬ Sy k) ∧ (∀ k, Sx k → X0 k ∨ wc.heap.size ≤ k) ∧ (∀ k, Sy k → Y0 k ∨ wc.heap.size ≤ k) ∧ Oth (fun k => X0 k ∨ Y0 k) wc w
set_option maxHeartbeats 8000000 in
set_option maxRecDepth 100000 in
theorem lawCopies_any (room : Nat) (L M : List Op) (A A' : Option Addr) (c c' : Nat) (w : World) (hs : Ops w A c L) (hs' : Ops w A' c' M) (hsm : ∀ o ∈ L, o.small) (hsm' : ∀ o ∈ M, o.small) (hl : L.length ≤ 9223372036854775807) (hl' : M.length ≤ 9223372036854775807) (_hr : room ≤ 65535) :
    Calls Try.prog 6 #[.int .u16 (room : Int), .slice A L.length c, .slice A' M.length c'] w fun y w' => y = .returned (.bool true) ∧ Below w.heap.size w w' := by
  have HWk := hide (wake_any w)
  have HFew := hide (fun (wz : World) (h : Below w.heap.size w wz) => few_any L A c wz (hs.keep h) hl)
  have HFew2 := hide (fun (wz : World) (h : Below w.heap.size w wz) => few_any M A' c' wz (hs'.keep h) hl')
  obtain ⟨n, hn⟩ : ∃ n, n = room % 1001 := ⟨_, rfl⟩
  have hn1 : n ≤ 1000 := by omega
  have hmod : ((room : Int)).tmod 1001 = (n : Int) := by rw [hn]; rfl
  have HNew := hide (fun wz => new_yes n (by omega) wz)
  have Hs := hide hs
  have Hsm := hide hsm
  have Hs' := hide hs'
  have Hsm' := hide hsm'
  obtain ⟨N, hN⟩ : ∃ N, N = L.length := ⟨_, rfl⟩
  obtain ⟨N', hN'⟩ : ∃ N, N = M.length := ⟨_, rfl⟩
  rw [← hN] at hl HFew ⊢
  rw [← hN'] at hl' HFew2 ⊢
  have HN := hide hN
  have HN' := hide hN'
  clear hs hsm hs' hsm' hN hN' hn
  go_enter Try.func6, Try.ntmps6
  go_wp2_with fail
  refine HWk.out.mono ?_
  rintro y w1 ⟨rfl, hb1⟩
  have HB1 := hide hb1
  clear hb1 HWk
  go_wp2_with fail
  refine (HFew.out w1 HB1.out).mono ?_
  rintro y w2 ⟨rfl, hb2⟩
  have HB2 := hide (HB1.out.trans (hb2.mono HB1.out.size))
  clear hb2 HFew HB1
  go_wp2_with fail
  refine (HFew2.out w2 HB2.out).mono ?_
  rintro y w2a ⟨rfl, hb2⟩
  have HB2a := hide (HB2.out.trans (hb2.mono HB2.out.size))
  clear hb2 HFew2 HB2
  go_wp2_with fail
  refine (HNew.out w2a).mono ?_
  rintro y w3 ⟨g, rfl, hD, hg, hb3⟩
  have HB3 := hide (HB2a.out.trans (hb3.mono HB2a.out.size))
  have HD := hide hD
  have HG := hide (show w.heap.size ≤ g by have := HB2a.out.size; omega)
  clear hD hg hb3 HB2a HNew
  generalize hfew : few L = fw
  generalize hfew2 : few M = fw2
  cases fw with
  | false =>
    clear hfew hfew2
    go_wp2
    go_ret
    exact ⟨rfl, HB3.out⟩
  | true =>
   cases fw2 with
   | false =>
    clear hfew hfew2
    go_wp2
    go_ret
    exact ⟨rfl, HB3.out⟩
   | true =>
    have hN40 : N ≤ 40 := by have := (few_is hfew).1; have := HN.out; omega
    have hM40 : N' ≤ 40 := by have := (few_is hfew2).1; have := HN'.out; omega
    clear hfew hfew2
    go_wp2
    go_loopw [12] (fun i wr => ∃ k : Nat, k ≤ N ∧ i = .int .i64 k ∧ (∃ S, DkIn wr S g (run (new n) (L.take k)) ∧ ∀ b, S b → w.heap.size ≤ b) ∧ Below w.heap.size w wr) (fun i _ => N - (intOf i).toNat)
    case atStart => exact ⟨0, Nat.zero_le _, rfl, ⟨_, HD.out, fun b e => by have := HG.out; omega⟩, HB3.out⟩
    case round =>
      obtain ⟨k, hk, rfl, ⟨S, hD, hS⟩, hb⟩ := hrel
      have Hb := hide hb
      have HS := hide hS
      have HX := hide (run_fit (new_fit (show n ≤ 16777216 by omega)) (L.take k) fun o ho => Hsm.out o (List.mem_of_mem_take ho))
      have HR := hide (run_room (new n) (L.take k))
      have HNx := hide (fun (h : k < L.length) => take_step L k h (new n))
      generalize run (new n) (L.take k) = s at *
      have HD := hide hD
      clear hD hS hb
      by_cases hlt : k < N
      · obtain ⟨b, o, e, Ae, ce, rfl, hke, ⟨c0, c1, c2⟩, hv⟩ := Hs.out.at Hb.out (k := k) (by have := HN.out; omega)
        have hkl : k < L.length := by have := HN.out; omega
        have hge : L.getD k ⟨0, [], 0⟩ = e := by simp [List.getD_eq_getElem?_getD, hke]
        have HNx2 := hide (HNx.out hkl)
        rw [hge] at HNx2
        have HP := hide (do_any HD.out HX.out e Ae ce _ hv)
        obtain ⟨M, hM⟩ : ∃ M, M = e.b.length := ⟨_, rfl⟩
        rw [← hM] at HP c1
        clear hke hv hge HNx HX HR hM
        go_wp2_with fail
        refine HP.out.mono ?_
        rintro y w4 ⟨rfl, S4, hD4, hO4, hS4⟩
        have HEnd := hide (show (∃ S, DkIn w4 S g (run (new n) (L.take (k + 1))) ∧ ∀ b, S b → w.heap.size ≤ b) ∧ Below w.heap.size w w4 from ⟨⟨S4, by rw [HNx2.out]; exact hD4, lo hS4 HS.out Hb.out.size⟩, oth_low hO4 Hb.out HS.out⟩)
        clear HP hD4 hO4 hS4 HNx2
        go_wp2
        exact ⟨⟨k + 1, by omega, by go_num, HEnd.out⟩, by simp [intOf]; omega⟩
      · obtain rfl : k = N := by omega
        have HC := hide (copy_any HD.out HX.out)
        clear HNx HR
        go_wp2_with fail
        refine HC.out.mono ?_
        rintro y w4 ⟨gx, X0, rfl, hX, hXlo, hb4⟩
        have HB4 := hide (Hb.out.trans (hb4.mono Hb.out.size))
        have HD4 := hide (HD.out.below hb4)
        have HX4 := hide hX
        have HXd := hide (show ∀ k, S k → ¬ X0 k from fun k h1 h2 => by have := HD.out.lt k h1; have := hXlo k h2; omega)
        have HXlo := hide (show ∀ k, X0 k → w.heap.size ≤ k from fun k h => Nat.le_trans Hb.out.size (hXlo k h))
        have HC := hide (copy_any HD4.out HX.out)
        clear hX hXlo hb4 HD Hb
        go_wp2_with fail
        refine HC.out.mono ?_
        rintro y w5 ⟨gy, Y0, rfl, hY, hYlo, hb5⟩
        have HB5 := hide (HB4.out.trans (hb5.mono HB4.out.size))
        have HD5 := hide (HD4.out.below hb5)
        have HX5 := hide (HX4.out.below hb5)
        have HY5 := hide hY
        have HYd := hide (show ∀ k, S k → ¬ Y0 k from fun k h1 h2 => by have := HD4.out.lt k h1; have := hYlo k h2; omega)
        have HXY := hide (show ∀ k, X0 k → ¬ Y0 k from fun k h1 h2 => by have := HX4.out.lt k h1; have := hYlo k h2; omega)
        have HYlo := hide (show ∀ k, Y0 k → w.heap.size ≤ k from fun k h => Nat.le_trans HB4.out.size (hYlo k h))
        have HBy := hide (bytes_call HD5.out HX.out)
        clear hY hYlo hb5 HC HD4 HX4 HB4
        go_wp2_with fail
        refine HBy.out.mono ?_
        rintro y w6 ⟨v, rfl, hown, hb6⟩
        obtain ⟨Aw, cw, rfl, hsw⟩ := hown.sl
        obtain ⟨Kw, hK⟩ : ∃ K, K = s.k.length := ⟨_, rfl⟩
        rw [← hK]
        have HKw := hide hK
        have HSw := hide (hsw.bound.imp (Q := fun b => w5.heap.size ≤ b ∧ b < w6.heap.size) fun b _ h => ⟨h.1.1, h.2⟩)
        have HB6 := hide (HB5.out.trans (hb6.mono HB5.out.size))
        have HX0l := hide (HX5.out.lt)
        have HY0l := hide (HY5.out.lt)
        have HD6 := hide (HD5.out.below hb6)
        have HTw := hide (show Two w6 X0 Y0 gx gy (run s (M.take 0)) w6 from ⟨X0, Y0, HX5.out.below hb6, HY5.out.below hb6, HXY.out, fun k h => .inl h, fun k h => .inl h, Oth.refl _ _⟩)
        have HDe := hide (dead_any HD6.out)
        clear hown hb6 hsw hK HBy HX5 HY5 HD5 HB5 HXY
        go_wp2_with fail
        refine HDe.out.mono ?_
        rintro y w7 ⟨rfl, rfl⟩
        clear HDe
        generalize hdd : s.dead = dd at *
        have Hdd := hide hdd
        clear hdd
        go_wp2
        go_loopw [17] (fun i wr => ∃ k : Nat, k ≤ N' ∧ i = .int .i64 k ∧ Two w6 X0 Y0 gx gy (run s (M.take k)) wr) (fun i _ => N' - (intOf i).toNat)
        case atStart => exact ⟨0, Nat.zero_le _, rfl, HTw.out⟩
        case round =>
          obtain ⟨j, hj, rfl, Sx, Sy, hX, hY, hxy, hx0, hy0, hO⟩ := hrel
          have HO := hide hO
          have HX7 := hide hX
          have HY7 := hide hY
          have Hxy := hide hxy
          have Hx0 := hide hx0
          have Hy0 := hide hy0
          have HBr := hide (oth_low hO HB6.out fun k h => h.elim (HXlo.out k) (HYlo.out k))
          have Hft := hide (run_fit HX.out (M.take j) fun o ho => Hsm'.out o (List.mem_of_mem_take ho))
          have HNx := hide (fun (h : j < M.length) => take_step M j h s)
          generalize run s (M.take j) = u at *
          clear hX hY hxy hx0 hy0 hO
          by_cases hlt : j < N'
          · obtain ⟨b, o, e, Ae, ce, rfl, hke, ⟨c0, c1, c2⟩, hv⟩ := Hs'.out.at HBr.out (k := j) (by have := HN'.out; omega)
            have hkl : j < M.length := by have := HN'.out; omega
            have hge : M.getD j ⟨0, [], 0⟩ = e := by simp [List.getD_eq_getElem?_getD, hke]
            have HNx2 := hide (HNx.out hkl)
            rw [hge] at HNx2
            have HP := hide (do_any (show DkIn wr.drew Sx gx u from HX7.out) Hft.out e Ae ce (fun b => b < w.heap.size) (show Sl wr.drew (fun b => b < w.heap.size) Ae ce e.b from hv))
            have HP2 := hide (fun (wz : World) (hD : DkIn wz Sy gy u) (hz : Sl wz (fun b => b < w.heap.size) Ae ce e.b) => do_any hD Hft.out e Ae ce _ hz)
            have HV := hide hv
            have HbL := hide (show b < w.heap.size from by
              obtain ⟨b', o', he', hlt', _⟩ := Hs'.out.2 (by omega)
              injection he' with he'
              injection he' with he' _ _
              rw [he']; exact hlt')
            have HLo := hide (show ∀ k, Sx k → w.heap.size ≤ k from fun k h => (Hx0.out k h).elim (HXlo.out k) fun x => Nat.le_trans HB6.out.size x)
            obtain ⟨Mb, hMb⟩ : ∃ Mb, Mb = e.b.length := ⟨_, rfl⟩
            rw [← hMb] at HP HP2 c1
            clear hke hv hge HNx hMb
            go_wp2
            refine Rg.wp_region_ord (fun w' => w'.cell? ⟨b, o + j * 3, none⟩ = some (.int .u8 (e.kind : Int)) ∧ w'.cell? ⟨b, o + j * 3 + 1, none⟩ = some (.slice Ae Mb ce) ∧ w'.cell? ⟨b, o + j * 3 + 2, none⟩ = some (.int .i64 e.n) ∧ True) [(0, true), (1, true), (2, true), (3, true), (4, true), (6, true), (7, true), (8, true), (9, true), (10, true), (5, false), (11, false), (12, true)] (by kernel_rfl) (by kernel_rfl) ?_
            simp only [Rg.pick, List.map_cons, List.map_nil, List.getD_cons_zero, List.getD_cons_succ]
            iterate 10 (refine Rg.ord_quiet (v := ?_) rfl (fun w' hS => ?_) ⟨c0, c1, c2, trivial⟩ ?_; rotate_left; (obtain ⟨s1, s2, s3, s4⟩ := hS; go_simp; with_reducible rfl); simp only [Act.put, List.setIfInBounds_toArray, List.set_cons_succ, List.set_cons_zero])
            refine Rg.ord_loud rfl (fun K hK => ?_)
            go_simp
            refine HP.out.mono ?_
            rintro y w8 ⟨rfl, Sx', hX8, hO8, hSx'⟩
            have HX8 := hide hX8
            have HY8 := hide ((show DkIn wr.drew Sy gy u from HY7.out).oth hO8 fun k h1 h2 => Hxy.out k h2 h1)
            have Hxy8 := hide (ap hSx' Hxy.out (show ∀ k, Sy k → k < wr.drew.heap.size from HY7.out.lt))
            have Hx8 := hide (on_on hSx' Hx0.out (show w6.heap.size ≤ wr.drew.heap.size from HO.out.size))
            have HV8 := hide (HV.out.move (w' := w8) fun b hb _ => hO8.block b (by have := HBr.out.size; show b < wr.heap.size; omega) fun h => by have := HLo.out b h; omega)
            have HO8 := hide (oth_on HO.out.drew hO8 fun k h => (Hx0.out k h).imp .inl id)
            have hblk := hO8.block b (by have := HBr.out.size; have := HbL.out; show b < wr.heap.size; omega) fun h => by have := HLo.out b h; have := HbL.out; omega
            have c0' := (World.cell?_of_block (a := ⟨b, o + j * 3, none⟩) hblk).trans c0
            have c1' := (World.cell?_of_block (a := ⟨b, o + j * 3 + 1, none⟩) hblk).trans c1
            have c2' := (World.cell?_of_block (a := ⟨b, o + j * 3 + 2, none⟩) hblk).trans c2
            clear hX8 hO8 hSx' hblk HP
            refine hK _ _ (fun _ => ⟨c0', c1', c2', trivial⟩) ?_
            clear hK K c0 c1 c2
            refine Rg.ord_loud rfl (fun K hK => ?_)
            go_simp
            refine (HP2.out w8 HY8.out HV8.out).mono ?_
            rintro y w9 ⟨rfl, Sy', hY9, hO9, hSy'⟩
            have HL8 := hide HX8.out.lt
            have HTw := hide (show Two w6 X0 Y0 gx gy (run s (M.take (j + 1))) w9 from by
              rw [HNx2.out]
              exact ⟨Sx', Sy', HX8.out.oth hO9 fun k h1 h2 => Hxy8.out k h1 h2, hY9, fun k h1 h2 => ap hSy' (fun k h1 h2 => Hxy8.out k h2 h1) HL8.out k h2 h1, Hx8.out, on_on hSy' Hy0.out (Nat.le_trans HO8.out.size (Nat.le_refl _)), oth_on HO8.out hO9 fun k h => (Hy0.out k h).imp .inr id⟩)
            have hblk := hO9.block b (by have := HO8.out.size; have := HB6.out.size; have := HbL.out; omega) fun h => by
              have := HbL.out
              rcases Hy0.out b h with h | h
              · have := HYlo.out b h; omega
              · have := HB6.out.size; omega
            have c0 := (World.cell?_of_block (a := ⟨b, o + j * 3, none⟩) hblk).trans c0'
            have c1 := (World.cell?_of_block (a := ⟨b, o + j * 3 + 1, none⟩) hblk).trans c1'
            have c2 := (World.cell?_of_block (a := ⟨b, o + j * 3 + 2, none⟩) hblk).trans c2'
            clear hY9 hO9 hSy' hblk HP2 HX8 HY8 Hxy8 Hx8 HV8 HO8 c0' c1' c2'
            generalize (step u e).2 = er
            refine hK _ _ (fun _ => ⟨c0, c1, c2, trivial⟩) ?_
            clear hK K
            iterate 1 (refine Rg.ord_quiet (v := ?_) rfl (fun w' hS => ?_) ⟨c0, c1, c2, trivial⟩ ?_; rotate_left; (obtain ⟨s1, s2, s3, s4⟩ := hS; go_simp; with_reducible rfl); simp only [Act.put, List.setIfInBounds_toArray, List.set_cons_succ, List.set_cons_zero])
            refine Rg.ord_nil ?_
            clear c0 c1 c2
            go_wp2
            exact ⟨⟨j + 1, by omega, by go_num, HTw.out⟩, by simp [intOf]; omega⟩
          · obtain rfl : j = N' := by omega
            have HDr := hide (HD6.out.oth HO.out fun k h1 h2 => h2.elim (HXd.out k h1) (HYd.out k h1))
            have HSr := hide (HSw.out.move (w' := wr) fun b hb _ => HO.out.block b hb.2 fun h => h.elim (fun h => by have := HX0l.out b h; omega) fun h => by have := HY0l.out b h; omega)
            have HSrb := hide HSr.out.bound
            have HBy := hide (bytes_call HDr.out HX.out)
            clear HNx
            go_wp2_with fail
            refine HBy.out.mono ?_
            rintro y w8 ⟨v, rfl, hown, hb8⟩
            have HB8 := hide hb8
            have hz : ∃ Az cz, v = .slice Az s.k.length cz ∧ (0 < s.k.length → ∃ zg, Az = some ⟨zg, 0, none⟩ ∧ wr.heap.size ≤ zg ∧ ∃ cs, Row w8 zg tU8 cs ∧ ∀ i, i < s.k.length → ∃ x : Int, cs[i]? = some (.int .u8 x)) := by
              rcases hown.2 with ⟨rfl, h0⟩ | ⟨zg, cap, cur, rfl, hB, hg, hnc, hcm, hsz, htk⟩
              · exact ⟨none, 0, by rw [h0], fun h => by omega⟩
              · refine ⟨_, cap, rfl, fun _ => ⟨zg, rfl, hB, cur.toList, hg, fun i hi => ?_⟩⟩
                have h1 := u8s_get s.k i hi
                rw [← htk, List.getElem?_take, if_pos (by omega)] at h1
                exact ⟨_, h1⟩
            obtain ⟨Az, cz, rfl, hz⟩ := hz
            rw [← HKw.out] at hz ⊢
            have Hz := hide hz
            clear hown hb8 hz HBy
            have hKw : Kw ≤ 16777216 := by have := HKw.out; have := HX.out.1; have := HX.out.2.1; omega
            have HX9 := hide HX7.out
            have HY9 := hide HY7.out
            obtain ⟨wk, hwk⟩ : ∃ z, z = wr := ⟨_, rfl⟩
            subst hwk
            go_wp2
            go_loopw [19] (fun i wq => ∃ m : Nat, m ≤ Kw ∧ i = .int .i64 m ∧ Below wk.heap.size wk wq ∧ (0 < Kw → ∃ zg, Az = some ⟨zg, 0, none⟩ ∧ wk.heap.size ≤ zg ∧ ∃ cs, Row wq zg tU8 cs ∧ ∀ i, i < Kw → ∃ x : Int, cs[i]? = some (.int .u8 x))) (fun i _ => Kw - (intOf i).toNat)
            case atStart => exact ⟨0, Nat.zero_le _, rfl, HB8.out, Hz.out⟩
            case round =>
              obtain ⟨m, hm, rfl, hbq, hzq⟩ := hrel
              have Hbq := hide hbq
              clear hbq
              by_cases hlt : m < Kw
              · obtain ⟨zg, rfl, hzl, cs, hrw, hcs⟩ := hzq (by omega)
                obtain ⟨x, hx⟩ := hcs m hlt
                have c0 : wr.cell? ⟨zg, m, none⟩ = some (.int .u8 x) := (hrw.cell m).trans hx
                have f0 := hrw.free m
                have Hput := hide (fun y : Int => show Below wk.heap.size wk (wr.setCell ⟨zg, m, none⟩ (.int .u8 y)) ∧ (0 < Kw → ∃ zg', some (⟨zg, 0, none⟩ : Addr) = some ⟨zg', 0, none⟩ ∧ wk.heap.size ≤ zg' ∧ ∃ cs, Row (wr.setCell ⟨zg, m, none⟩ (.int .u8 y)) zg' tU8 cs ∧ ∀ i, i < Kw → ∃ x : Int, cs[i]? = some (.int .u8 x)) from
                  ⟨below_put Hbq.out hzl _, fun _ => ⟨zg, rfl, hzl, _, hrw.put m (.int .u8 y), fun i hi => by
                    by_cases e : m = i
                    · subst e
                      obtain ⟨z, hz⟩ := hcs m hi
                      exact ⟨y, by rw [List.getElem?_set_self (List.getElem?_eq_some_iff.1 hz).1]⟩
                    · rw [List.getElem?_set_ne e]; exact hcs i hi⟩⟩)
                clear hrw hcs hx hzq hzl
                go_wp2
                exact ⟨⟨m + 1, by omega, by go_num, Hput.out _⟩, by simp [intOf]; omega⟩
              · obtain rfl : m = Kw := by omega
                have HBe := hide ((oth_low HO.out HB6.out fun k h => h.elim (HXlo.out k) (HYlo.out k)).trans (Hbq.out.mono (oth_low HO.out HB6.out fun k h => h.elim (HXlo.out k) (HYlo.out k)).size))
                have HD9 := hide (HDr.out.below Hbq.out)
                have HX10 := hide (HX9.out.below Hbq.out)
                have HY10 := hide (HY9.out.below Hbq.out)
                have HS10 := hide (HSrb.out.move (w' := wr) fun b hb _ => Hbq.out.block b hb.2)
                have HBd := hide (bytes_call HD9.out HX.out)
                have HlS := hide (show s.k.length ≤ 9223372036854775807 by have := HKw.out; omega)
                clear hzq HDr HX9 HY9 HSrb HSr HX7 HY7 Hz HB8
                go_wp2_with fail
                refine HBd.out.mono ?_
                rintro y w9 ⟨v, rfl, hown, hb9⟩
                obtain ⟨A9, c9, rfl, hs9⟩ := hown.sl
                rw [← HKw.out]
                have HB9 := hide (HBe.out.trans (hb9.mono HBe.out.size))
                have HT := hide (bytes_two s.k s.k A9 Aw m m c9 cw _ _ w9 hs9 (HS10.out.bound.move fun b hb _ => hb9.block b hb.2) HKw.out HKw.out HlS.out)
                rw [decide_eq_true rfl] at HT
                have HD10 := hide (HD9.out.below hb9)
                have HX11 := hide (HX10.out.below hb9)
                have HY11 := hide (HY10.out.below hb9)
                clear hown hb9 hs9 HBd HBe HS10 HD9 HX10 HY10
                go_wp2_with fail
                refine HT.out.mono ?_
                rintro y w10 ⟨rfl, hb10⟩
                have HB10 := hide (HB9.out.trans (hb10.mono HB9.out.size))
                have HD11 := hide (dead_any (HD10.out.below hb10))
                have HX12 := hide (HX11.out.below hb10)
                have HY12 := hide (HY11.out.below hb10)
                rw [Hdd.out] at HD11
                clear hb10 HT HB9 HD10 HX11 HY11
                go_wp2_with fail
                refine HD11.out.mono ?_
                rintro y w11 ⟨rfl, rfl⟩
                have hbd : (dd == dd) = true := by simp
                have HBx := hide (bytes_call HX12.out Hft.out)
                clear HD11
                go_wp2_with fail
                refine HBx.out.mono ?_
                rintro y w11 ⟨v, rfl, hown, hb11⟩
                obtain ⟨A11, c11, rfl, hs11⟩ := hown.sl
                obtain ⟨U, hU⟩ : ∃ U, U = u.k.length := ⟨_, rfl⟩
                rw [← hU]
                have HU := hide hU
                have HB11 := hide (HB10.out.trans (hb11.mono HB10.out.size))
                have HS11 := hide hs11.bound
                have HX13 := hide (HX12.out.below hb11)
                have HY13 := hide (HY12.out.below hb11)
                have HBy := hide (bytes_call HY13.out Hft.out)
                clear hown hb11 hs11 hU HBx HB10 HX12 HY12
                go_wp2_with fail
                refine HBy.out.mono ?_
                rintro y w12 ⟨v, rfl, hown, hb12⟩
                obtain ⟨A12, c12, rfl, hs12⟩ := hown.sl
                rw [← HU.out]
                have HB12 := hide (HB11.out.trans (hb12.mono HB11.out.size))
                have HT := hide (bytes_two u.k u.k A11 A12 U U c11 c12 _ _ w12 (HS11.out.move fun b hb _ => hb12.block b hb.2) hs12 HU.out HU.out (by have := Hft.out.1; have := Hft.out.2.1; omega))
                rw [decide_eq_true rfl] at HT
                have HX14 := hide (HX13.out.below hb12)
                have HY14 := hide (HY13.out.below hb12)
                clear hown hb12 hs12 HBy HB11 HX13 HY13 HS11
                go_wp2_with fail
                refine HT.out.mono ?_
                rintro y w13 ⟨rfl, hb13⟩
                have HB13 := hide (HB12.out.trans (hb13.mono HB12.out.size))
                have HX15 := hide (dead_any (HX14.out.below hb13))
                have HY15 := hide (dead_any (HY14.out.below hb13))
                generalize u.dead = ud at *
                clear hb13 HT HB12 HX14 HY14
                go_wp2_with fail
                refine HX15.out.mono ?_
                rintro y w14 ⟨rfl, rfl⟩
                clear HX15
                go_wp2_with fail
                refine HY15.out.mono ?_
                rintro y w14 ⟨rfl, rfl⟩
                have hbu : (ud == ud) = true := by simp
                go_wp2
                go_ret
                exact ⟨by simp, HB13.out⟩
end Go.Proofs.Ytahcokfoifdlmaa.Dk
