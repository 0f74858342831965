/-
  The law OrderDown, over any graph that keeps the contract.
-/
import Derived.Test.YtplmcpdlommmaaaQCO
namespace Go.Proofs.Ytplmcpdlommmaaa.Oq
open Go Go.RowKit Kt Kg Lw Tr Dq

def fewI (l : List Bs) : Bool := l.all (fun x => decide (x.length ≤ 40)) && decide (l.length ≤ 8)
theorem fewI_spec {l : List Bs} (h : fewI l = true) : (∀ x ∈ l, x.length ≤ 40) ∧ l.length ≤ 8 := by
  unfold fewI at h
  rw [Bool.and_eq_true, List.all_eq_true, decide_eq_true_iff] at h
  exact ⟨fun x hx => of_decide_eq_true (h.1 x hx), h.2⟩
set_option maxRecDepth 100000 in
set_option maxHeartbeats 4000000 in
theorem fewI_any (l : List Bs) (A : Option Addr) (c : Nat) (P : Nat → Prop) (w : World) (hs : Vs w P A c (texts l)) (hl : l.length ≤ 9223372036854775807) :
    Calls Try.prog 37 #[.slice A l.length c] w fun y w' => y = .returned (.bool (fewI l)) ∧ Below w.heap.size w w' := by
  have Hs := hide (vs_low hs)
  obtain ⟨N, hN⟩ : ∃ N, N = l.length := ⟨_, rfl⟩
  have HN := hide hN
  rw [← hN] at hl ⊢
  clear hs hN
  go_enter Try.func37, Try.ntmps37
  go_wp2
  go_loopw [3] (fun i wr => ∃ k : Nat, k ≤ N ∧ i = .int .i64 k ∧ Hid (∀ x ∈ l.take k, x.length ≤ 40) ∧ Hid (Below w.heap.size w wr)) (fun i _ => N - (intOf i).toNat)
  case atStart => exact ⟨0, Nat.zero_le _, rfl, by show Hid _; exact hide (fun x hx => by simp at hx), by show Hid _; exact hide (Below.refl _ _)⟩
  case round =>
    obtain ⟨k, hk, rfl, HA, HB⟩ := hrel
    by_cases hlt : k < N
    · obtain ⟨x, hx⟩ : ∃ z, l[k]? = some z := ⟨_, List.getElem?_eq_getElem (by have := HN.out; omega)⟩
      obtain ⟨b, o, rfl, hb, ck⟩ := vs_at Hs.out hx
      have hc := (World.cell?_of_block (a := ⟨b, o + k, none⟩) (HB.out.block b hb)).trans ck
      have HX := hide hx
      obtain ⟨n, hn⟩ : ∃ n, n = x.length := ⟨_, rfl⟩
      have HNx := hide hn
      have hsz : (⟨x.toArray⟩ : ByteArray).size = n := by rw [hn]; simp [ByteArray.size]
      clear hx ck hn hb
      by_cases h40 : n ≤ 40
      · have HA2 := hide (show ∀ y ∈ l.take (k + 1), y.length ≤ 40 from fun y hy => by
          rw [List.take_add_one, HX.out] at hy
          rcases List.mem_append.1 hy with hy | hy
          · exact HA.out y hy
          · obtain rfl : y = x := by simpa using hy
            rw [← HNx.out]; exact h40)
        go_wp2
        exact ⟨⟨k + 1, by omega, by go_num, by show Hid _; exact HA2, by show Hid _; exact HB⟩, by simp [intOf]; omega⟩
      · have HF := hide (show fewI l = false from by
          cases h : fewI l with
          | false => rfl
          | true => exact absurd ((fewI_spec h).1 x (List.mem_of_getElem? HX.out)) (by rw [← HNx.out]; exact h40))
        have d1 : decide ((40 : Int) < (n : Int)) = true := decide_eq_true (by omega)
        clear h40
        go_wp2
        go_ret
        exact ⟨by rw [HF.out]; rfl, HB.out⟩
    · obtain rfl : k = N := by omega
      have HF := hide (show fewI l = decide ((k : Int) ≤ 8) from by
        have h := HA.out
        rw [HN.out, List.take_length] at h
        unfold fewI
        rw [List.all_eq_true.2 fun x hx => decide_eq_true (h x hx), Bool.true_and, decide_eq_decide, HN.out]
        omega)
      go_wp2
      go_ret
      exact ⟨by rw [HF.out]; rfl, HB.out⟩
def ndOf (D : List Nd) (b : Bs) : Nd := ⟨b, parents D b, false⟩
theorem part_run (D : List Nd) (l : List Bs) : part D l = run ((bel D l).map (ndOf D)) := rfl
theorem part_next2 {D : List Nd} {L : List Bs} {k : Nat} {b : Bs} (h : L[k]? = some b) : run ((L.take (k + 1)).map (ndOf D)) = (Dq.add (run ((L.take k).map (ndOf D))) b (parents D b)).1 := by
  rw [List.take_add_one, h]
  show run ((L.take k ++ [b]).map (ndOf D)) = _
  rw [List.map_append]
  exact run_snoc _ _
theorem part_fine {D : List Nd} (hI : Inv D) (h : Sm D) (l : List Bs) : Fine ((bel D l).map (ndOf D)) := fun n hn => by
  obtain ⟨b, hb, rfl⟩ := List.mem_map.1 hn
  exact ⟨h.all true b ((all_in2 hI b).2 (bel_has hI hb)), h.parents b⟩
/-- what of the log is below, told so far -/
def wantL (L B : List Bs) (i k : Nat) (x : Bs) : List Bs := (L.take i).filter (fun y => decide (y ∈ B)) ++ (B.take k).filter fun y => decide (y = x)
theorem want_next {L B : List Bs} (hn : B.Nodup) {i : Nat} {x : Bs} (hx : L[i]? = some x) : wantL L B i B.length x = (L.take (i + 1)).filter fun y => decide (y ∈ B) := by
  unfold wantL
  rw [List.take_add_one, hx, List.filter_append, List.take_length]
  congr 1
  show _ = List.filter _ [x]
  by_cases h : x ∈ B
  · rw [List.filter_cons, if_pos (by simpa using h), List.filter_nil]
    clear hx
    induction B with
    | nil => cases h
    | cons z r ih =>
      obtain ⟨h1, h2⟩ := List.nodup_cons.1 hn
      by_cases e : z = x
      · subst e
        rw [List.filter_cons, if_pos (by simp), List.filter_eq_nil_iff.2 fun y hy => by simp only [decide_eq_true_eq]; rintro rfl; exact h1 hy]
      · rw [List.filter_cons, if_neg (by simpa using e)]
        exact ih h2 ((List.mem_cons.1 h).elim (fun e2 => absurd e2.symm e) id)
  · rw [List.filter_cons, if_neg (by simpa using h), List.filter_nil]
    exact List.filter_eq_nil_iff.2 fun y hy => by simp only [decide_eq_true_eq]; rintro rfl; exact h hy
theorem want_step {L B : List Bs} {i k : Nat} {x y : Bs} (hy : B[k]? = some y) : wantL L B i (k + 1) x = wantL L B i k x ++ if y = x then [y] else [] := by
  unfold wantL
  rw [List.take_add_one, hy, List.filter_append, List.append_assoc]
  congr 2
  show List.filter _ [y] = _
  by_cases e : y = x
  · rw [if_pos e, List.filter_cons, if_pos (by simpa using e), List.filter_nil]
  · rw [if_neg e, List.filter_cons, if_neg (by simpa using e), List.filter_nil]
set_option maxRecDepth 100000 in
set_option maxHeartbeats 4000000 in
theorem lawDown_any {In : World → (Nat → Prop) → Nat → List Nd → Prop} (l : List Nd) (a : List Bs) (A A1 : Option Addr) (c c1 : Nat) (Pa : Nat → Prop) (w : World) (C : Cd w In) (hs : Nds w A c l) (hs1 : Vs w Pa A1 c1 (texts a)) (hl : l.length ≤ 9223372036854775807) (hl1 : a.length ≤ 9223372036854775807) :
    Calls Try.prog 8 #[.slice A l.length c, .slice A1 a.length c1] w fun y w' => y = .returned (.bool true) ∧ Below w.heap.size w w' := by
  have HC := hide C
  have Hs := hide hs
  have Hs1 := hide (vs_low hs1)
  have Hl := hide hl
  have Hl1 := hide hl1
  have Hw := hide (owake_any w C)
  obtain ⟨N0, hN0⟩ : ∃ N, N = l.length := ⟨_, rfl⟩
  have HN0 := hide hN0
  obtain ⟨N1, hN1⟩ : ∃ N, N = a.length := ⟨_, rfl⟩
  have HN1 := hide hN1
  rw [← hN0] at hl ⊢
  rw [← hN1] at hl1 ⊢
  clear C hs hs1 hN0 hN1
  go_enter Try.func8, Try.ntmps8
  go_wp2_with fail
  refine Hw.out.mono ?_
  rintro y w1 ⟨rfl, hb1⟩
  have HB1 := hide hb1
  have HFew := hide (rfew_any l A c w1 (Hs.out.keep hb1) Hl.out)
  rw [← HN0.out] at HFew
  clear hb1 Hw
  go_wp2_with fail
  refine HFew.out.mono ?_
  rintro y w2 ⟨rfl, hb2⟩
  have HB2 := hide (HB1.out.trans (hb2.mono HB1.out.size))
  have HFa := hide (fewI_any a A1 c1 _ w2 (vs_keep Hs1.out HB2.out) Hl1.out)
  rw [← HN1.out] at HFa
  clear hb2 HFew HB1
  go_wp2_with fail
  refine HFa.out.mono ?_
  rintro y w3 ⟨rfl, hb3⟩
  have HB3 := hide (HB2.out.trans (hb3.mono HB2.out.size))
  clear hb3 HFa HB2
  cases hfe : fewN l with
  | false =>
    go_wp2
    go_ret
    exact ⟨rfl, HB3.out⟩
  | true =>
    cases hfa : fewI a with
    | false =>
      clear hfe
      go_wp2
      go_ret
      exact ⟨rfl, HB3.out⟩
    | true =>
      have HBo := hide (both_any l A c w w3 HC.out HB3.out Hs.out (fine_of hfe).1 (by have := (fine_of hfe).2; omega))
      have HSm := hide (run_sm (fine_of hfe).1 (by have := (fine_of hfe).2; omega))
      have HLn := hide (Nat.le_trans (run_keeps l).2.2 (fine_of hfe).2)
      have HSr := hide (run_srt l)
      have HA := hide (fewI_spec hfa)
      rw [← HN0.out] at HBo
      clear hfe hfa HB3
      go_wp2_with fail
      refine HBo.out.mono ?_
      rintro y w4 ⟨g, r, Sr, rfl, hg4, _, _, _⟩
      obtain ⟨D, hD⟩ : ∃ D, D = run l := ⟨_, rfl⟩
      rw [← hD] at hg4 HSm HSr HLn
      have HOk := hide hg4.ok
      have HI := hide hg4.ok.inv
      obtain ⟨Sd, hin4, hSd, _⟩ := hg4.at_
      have HLow4 := hide hg4.low
      have HIn4 := hide hin4
      have HSd := hide hSd
      have HNew := hide (GD.new HC.out hg4.low)
      clear hg4 hD HBo hin4 hSd
      go_wp2_with fail
      refine HNew.out.mono ?_
      rintro y w5 ⟨g2, rfl, hg5, hb5⟩
      have HIn5 := hide (HC.out.below HIn4.out hb5)
      have HG5 := hide (show GD In w w5 g2 [] Sd from hg5.imp fun k hk => HC.out.lt HIn4.out k hk)
      have HGd5 := hide (show GD In w w5 g D (fun _ => False) from ⟨HG5.out.low, HOk.out, Sd, HIn5.out, HSd.out, fun _ h => h.elim⟩)
      have hbe := gd_below HC.out HGd5.out a A1 c1 _ (vs_keep Hs1.out HG5.out.low) (by have := HA.out.2; omega) (fun x hx => by have := HA.out.1 x hx; omega)
      rw [← HN1.out] at hbe
      have HBe := hide hbe
      clear hg5 hb5 hbe HNew HIn4 HLow4 HGd5
      go_wp2_with fail
      refine HBe.out.mono ?_
      rintro y w6 ⟨v6, rfl, ho6, hb6⟩
      obtain ⟨A6, c6, rfl, _, hv6⟩ := own_vs ho6
      obtain ⟨Fb, hFb⟩ : ∃ Fb : Nat → Prop, Fb = fun b => (Value.slice A6 (bel D a).length c6).ownBlock = some b := ⟨_, rfl⟩
      have HV6 := hide (show Vs w6 Fb A6 c6 (texts (bel D a)) from by rw [hFb]; exact hv6)
      have HFb := hide (show ∀ b, Fb b → w5.heap.size ≤ b ∧ b < w6.heap.size from fun b hb => by rw [hFb] at hb; exact World.ownsRow.lt ho6 b hb)
      have HG6 := hide (show GD In w w6 g2 (run (((bel D a).take 0).map (ndOf D))) (fun k => Sd k ∨ Fb k) from (HG5.out.below HC.out hb6).imp fun k hk => hk.imp id (HFb.out k))
      have HIn6 := hide (HC.out.below HIn5.out hb6)
      obtain ⟨N, hN⟩ : ∃ N, N = (bel D a).length := ⟨_, rfl⟩
      rw [← hN]
      have hN14 : N ≤ 14 := by rw [hN]; have := bel_len D a; have := all_len D true; have := HLn.out; omega
      have HN := hide hN
      clear ho6 hb6 hv6 hFb hN HBe HG5 HIn5
      go_wp2
      go_loopw [12] (fun i wr => ∃ k : Nat, k ≤ N ∧ i = .int .i64 k ∧ Hid (GD In w wr g2 (run (((bel D a).take k).map (ndOf D))) (fun b => Sd b ∨ Fb b)) ∧ Hid (In wr Sd g D) ∧ Hid (Vs wr Fb A6 c6 (texts (bel D a)))) (fun i _ => N - (intOf i).toNat)
      case atStart => exact ⟨0, Nat.zero_le _, rfl, by show Hid _; exact HG6, by show Hid _; exact HIn6, by show Hid _; exact HV6⟩
      case round =>
        clear HG6 HIn6 HV6 HFb
        obtain ⟨k, hk, rfl, HG, HIn, HV⟩ := hrel
        by_cases hlt : k < N
        · obtain ⟨x, hx⟩ : ∃ z, (bel D a)[k]? = some z := ⟨_, List.getElem?_eq_getElem (by have := HN.out; omega)⟩
          obtain ⟨ab, ao, rfl, hpb, cx⟩ := vs_at HV.out hx
          have hxs := HSm.out.all true x ((all_in2 HI.out x).2 (bel_has HI.out (List.mem_of_getElem? hx)))
          have HNx := hide (part_next2 (D := D) hx)
          have hd : Below wr.heap.size wr wr.drew := (Below.refl _ _).drew
          have HGd := hide (show GD In w wr.drew g D (fun _ => False) from ⟨HG.out.low.drew, HOk.out, Sd, HC.out.below HIn.out hd, HSd.out, fun _ h => h.elim⟩)
          have HPa := hide (HGd.out.parents HC.out x (by omega))
          have hrl : (run (((bel D a).take k).map (ndOf D))).length < 40 := by
            have := (run_keeps (((bel D a).take k).map (ndOf D))).2.2
            rw [List.length_map, List.length_take] at this
            omega
          have hpx := HSm.out.parents x
          have HXs := hide hxs
          have HRl := hide hrl
          have HPx := hide hpx
          have hc : wr.drew.cell? ⟨ab, ao + k, none⟩ = some (.string ⟨x.toArray⟩) := cx
          have HFx := hide (show ∀ (W : World), (∀ b, Fb b → W.heap[b]? = wr.heap[b]?) → W.cell? ⟨ab, ao + k, none⟩ = some (.string ⟨x.toArray⟩) from fun W hW => (World.cell?_of_block (a := ⟨ab, ao + k, none⟩) (hW ab hpb)).trans cx)
          clear hx hxs hrl hpx hd cx hpb HGd
          go_wp2
          refine Rg.wp_region_ord (fun w' => w'.cell? ⟨ab, ao + k, none⟩ = some (.string ⟨x.toArray⟩)) [(0, true), (1, true), (2, true), (3, true), (4, true), (5, true), (6, true), (7, true), (8, true), (9, true), (10, false), (11, false)] (by kernel_rfl) (by kernel_rfl) ?_
          simp only [Rg.pick, List.map_cons, List.map_nil, List.getD_cons_zero, List.getD_cons_succ]
          iterate 10 (refine Rg.ord_quiet (v := ?_) rfl (fun w' hS => ?_) hc ?_; rotate_left; (go_simp; with_reducible rfl); simp only [Act.put, List.setIfInBounds_toArray, List.set_cons_succ, List.set_cons_zero])
          refine Rg.ord_loud (by rfl) (fun K hK => ?_)
          go_simp
          refine HPa.out.mono ?_
          rintro e w7 ⟨v7, rfl, ho7, hb7⟩
          obtain ⟨A7, c7, rfl, _, hv7⟩ := own_vs ho7
          have hb7' : Below wr.heap.size wr w7 := ⟨hb7.os, hb7.tape, hb7.output, hb7.size, hb7.block⟩
          have hc7 : w7.cell? ⟨ab, ao + k, none⟩ = some (.string ⟨x.toArray⟩) := HFx.out w7 fun b hb => hb7'.block b (HG.out.at_.elim fun S h => (h.2.2 b (.inr hb)).1)
          have hG7 := HG.out.below HC.out hb7'
          have hadd := (hG7.imp (F' := fun b => (Sd b ∨ Fb b) ∨ (Value.slice A7 (parents D x).length c7).ownBlock = some b) fun b hb => hb.imp id fun e => World.ownsRow.lt ho7 b e).add HC.out x (parents D x) A7 c7 _ HRl.out hv7 (fun b hb => .inl (.inr hb)) (by have := HXs.out; omega) ⟨by have := HPx.out.1; omega, fun p hp => by have := HPx.out.2 p hp; omega⟩
          rw [← HNx.out] at hadd
          have HAdd := hide hadd
          have HIn7 := hide (HC.out.below HIn.out hb7')
          have HV7 := hide (vs_move (w' := w7) HV.out fun b hb => hb7'.block b (HG.out.at_.elim fun S h => (h.2.2 b (.inr hb)).1))
          refine hK _ _ (fun _ => hc7) ?_
          clear hK K hc hb7 hb7' ho7 hv7 hG7 hadd HPa
          refine Rg.ord_loud (by rfl) (fun K hK => ?_)
          go_simp
          refine HAdd.out.mono ?_
          rintro e w8 ⟨v8, rfl, _, hg8, hf8, _, hs8⟩
          have HG8 := hide (hg8.imp (F' := fun b => Sd b ∨ Fb b) fun b hb => .inl (.inl hb))
          have HIn8 := hide (HC.out.move HIn7.out (fun b hb => hf8 b (.inl (.inl hb))) hs8)
          have HV8 := hide (vs_move (w' := w8) HV7.out fun b hb => hf8 b (.inl (.inr hb)))
          have hc8 : w8.cell? ⟨ab, ao + k, none⟩ = some (.string ⟨x.toArray⟩) := by
            obtain ⟨b2, o2, e2, hb2, _⟩ := HV8.out.2 (by rw [texts_len, ← HN.out]; omega)
            injection e2 with e2
            injection e2 with e2 e3 _
            subst e2 e3
            exact (World.cell?_of_block (a := ⟨ab, ao + k, none⟩) (hf8 ab (.inl (.inr hb2)))).trans hc7
          refine hK _ _ (fun _ => hc8) ?_
          clear hK K hg8 hf8 hs8 HAdd hc7 HG HIn HV HIn7 HV7
          refine Rg.ord_nil ?_
          go_wp2
          exact ⟨⟨k + 1, by omega, by go_num, by show Hid _; exact HG8, by show Hid _; exact HIn8, by show Hid _; exact HV8⟩, by simp [intOf]; omega⟩
        · obtain rfl : k = N := by omega
          have HG9 := hide (show GD In w wr g2 (part D a) (fun b => Sd b ∨ Fb b) from by have := HG.out; rwa [HN.out, List.take_length] at this)
          have HGd := hide (show GD In w wr g D (fun _ => False) from ⟨HG9.out.low, HOk.out, Sd, HIn.out, HSd.out, fun _ h => h.elim⟩)
          have HLo := hide (gd_log HC.out HGd.out HSm.out)
          have HLl := hide (log_len HI.out)
          clear HG
          go_wp2_with fail
          refine HLo.out.mono ?_
          rintro y w7 ⟨A7, c7, rfl, hv7, hb7⟩
          obtain ⟨n, hn⟩ : ∃ n, n = (log D).length := ⟨_, rfl⟩
          rw [← hn]
          have hn14 : n ≤ 14 := by rw [hn, HLl.out]; have := all_len D true; have := HLn.out; omega
          have HNl := hide hn
          have HV7 := hide (vs_low hv7)
          have HB7 := hide (vs_low (vs_move (w' := w7) HV.out fun b hb => hb7.block b (HG9.out.at_.elim fun S h => (h.2.2 b (.inr hb)).1)))
          have HG7 := hide ((HG9.out.stay HC.out hb7).imp (F' := fun _ => False) fun _ h => h.elim)
          clear hv7 hb7 hn HGd HLo HIn HV HG9
          go_wp2
          have HUp := hide (up_once2 (bel_up HI.out a))
          obtain ⟨B0, hB0⟩ : ∃ B0, B0 = w7.heap.size := ⟨_, rfl⟩
          have HB0 := hide hB0
          go_loopw [14, 15] (fun vv i wr => ∃ (j : Nat) (v : Value), v = vv ∧ i = .int .i64 j ∧ j ≤ n ∧ Hid (OwT wr w7.heap.size tId v (((log D).take j).filter fun y => decide (y ∈ bel D a))) ∧ Hid (Below w7.heap.size w7 wr)) (fun _ i _ => n - (intOf i).toNat)
          case atStart => exact ⟨0, _, rfl, rfl, Nat.zero_le _, by show Hid _; exact hide (OwT.nil _ _ _), by show Hid _; exact hide (Below.refl _ _)⟩
          case round =>
            obtain ⟨j, v, rfl, rfl, hj, HO, HB⟩ := hrel
            by_cases hlj : j < n
            · obtain ⟨x, hx⟩ : ∃ z, (log D)[j]? = some z := ⟨_, List.getElem?_eq_getElem (by have := HNl.out; omega)⟩
              obtain ⟨ab, ao, rfl, hpb, cx⟩ := vs_at HV7.out hx
              have HCx := hide (show ∀ W, Below w7.heap.size w7 W → W.cell? ⟨ab, ao + j, none⟩ = some (.string ⟨x.toArray⟩) from fun W hW => (World.cell?_of_block (a := ⟨ab, ao + j, none⟩) (hW.block ab hpb)).trans cx)
              have HX := hide hx
              clear hx hpb cx
              have HO0 := hide (show OwT wr w7.heap.size tId v (wantL (log D) (bel D a) j 0 x) from by unfold wantL; rw [List.take_zero, List.filter_nil, List.append_nil]; exact HO.out)
              go_wp2
              obtain ⟨wo, hwo⟩ : ∃ z, z = wr := ⟨_, rfl⟩
              rw [← hwo]
              subst hwo
              go_loopw [14, 16] (fun vv i wz => ∃ (q : Nat) (v : Value), v = vv ∧ i = .int .i64 q ∧ q ≤ k ∧ Hid (OwT wz w7.heap.size tId v (wantL (log D) (bel D a) j q x)) ∧ Hid (Below w7.heap.size w7 wz)) (fun _ i _ => k - (intOf i).toNat)
              case atStart => exact ⟨0, _, rfl, rfl, Nat.zero_le _, by show Hid _; exact HO0, by show Hid _; exact HB⟩
              case round =>
                clear HO HB HO0
                obtain ⟨q, v, rfl, rfl, hq, HO, HB⟩ := hrel
                by_cases hlq : q < k
                · obtain ⟨z, hz⟩ : ∃ z, (bel D a)[q]? = some z := ⟨_, List.getElem?_eq_getElem (by have := HN.out; omega)⟩
                  obtain ⟨bb, bo, rfl, hpz, cz⟩ := vs_at HB7.out hz
                  have HSt := hide (want_step (L := log D) (i := j) (x := x) hz)
                  have HCz := hide (show ∀ W, Below w7.heap.size w7 W → W.cell? ⟨bb, bo + q, none⟩ = some (.string ⟨z.toArray⟩) from fun W hW => (World.cell?_of_block (a := ⟨bb, bo + q, none⟩) (hW.block bb hpz)).trans cz)
                  have cz1 := HCz.out wr HB.out
                  have cx1 := HCx.out wr HB.out
                  have hlen : (wantL (log D) (bel D a) j q x).length + 1 ≤ 1000000000 := by
                    unfold wantL
                    rw [List.length_append]
                    have h1 := List.length_filter_le (fun y => decide (y ∈ bel D a)) ((log D).take j)
                    have h2 := List.length_filter_le (fun y => decide (y = x)) ((bel D a).take q)
                    rw [List.length_take] at h1 h2
                    have := HNl.out
                    omega
                  clear hz hpz cz
                  by_cases hzx : z = x
                  · have HS2 := hide (show wantL (log D) (bel D a) j q x ++ [x] = wantL (log D) (bel D a) j (q + 1) x from by rw [HSt.out, if_pos hzx, hzx])
                    subst hzx
                    have hq1 : (z == z) = true := by simp
                    clear HSt
                    go_wp2
                    go_quiet (fail)
                    have HB2 := hide (below_drewN HB.out nq)
                    have HO2 := hide (HO.out.drewN nq)
                    obtain ⟨wy, hwy⟩ : ∃ y, y = wr.drewN nq := ⟨_, rfl⟩
                    rw [← hwy] at HB2 HO2 ⊢
                    have cx2 := HCx.out wy HB2.out
                    clear hwy cz1 cx1
                    go_wp2_with (at_builtin; go_loud (refine wpList_pushI rfl (.tmp 85) (.tmp 90) rfl w7.heap.size w7 _ (wantL (log D) (bel D a) j q z) z _ rfl rfl rfl HO2.out hlen HB2.out HB2.out.size ?_; intro v6 w6 hown6 hb6 _ _; have HO6 := hide hown6; have HB6 := hide hb6; clear hown6 hb6))
                    exact ⟨⟨q + 1, _, rfl, by go_num, by omega, by show Hid _; rw [← HS2.out]; exact HO6, by show Hid _; exact HB6⟩, by simp [intOf]; omega⟩
                  · have HS2 := hide (show wantL (log D) (bel D a) j q x = wantL (log D) (bel D a) j (q + 1) x from by rw [HSt.out, if_neg hzx, List.append_nil])
                    have hq1 : (z == x) = false := by simpa using hzx
                    clear HSt hzx
                    go_wp2
                    go_quiet (fail)
                    go_wp2
                    exact ⟨⟨q + 1, _, rfl, by go_num, by omega, by show Hid _; rw [← HS2.out]; exact hide (HO.out.drewN nq), by show Hid _; exact hide (below_drewN HB.out nq)⟩, by simp [intOf]; omega⟩
                · obtain rfl : q = k := by omega
                  have HO2 := hide (show OwT wr w7.heap.size tId v (((log D).take (j + 1)).filter fun y => decide (y ∈ bel D a)) from by rw [← want_next HUp.out HX.out, ← HN.out]; exact HO.out)
                  go_wp2
                  exact ⟨⟨j + 1, v, rfl, by go_num, by omega, by show Hid _; exact HO2, by show Hid _; exact HB⟩, by simp [intOf]; omega⟩
            · obtain rfl : j = n := by omega
              have HO2 := hide (show OwT wr w7.heap.size tId v ((log D).filter fun y => decide (y ∈ bel D a)) from by have := HO.out; rwa [HNl.out, List.take_length] at this)
              have HG8 := hide (HG7.out.stay HC.out HB.out)
              clear HO
              obtain ⟨A8, c8, rfl, hv8, _⟩ := own_vs HO2.out
              have HV8 := hide hv8
              have hfew := HN.out
              have HLe := hide (gd_log HC.out HG8.out (by rw [part_run]; exact run_sm (part_fine HI.out HSm.out a) (by rw [List.length_map]; omega)))
              have HPl := hide (part_log HI.out HSr.out a)
              have HPa := hide (part_all HI.out HSr.out a)
              have HNe := hide (show (log (part D a)).length ≤ 1000000 from by
                rw [HPl.out]
                have := List.length_filter_le (fun y => decide (y ∈ bel D a)) (log D)
                have := HNl.out
                omega)
              obtain ⟨nw, hnw⟩ : ∃ z, z = ((log D).filter fun y => decide (y ∈ bel D a)).length := ⟨_, rfl⟩
              rw [← hnw]
              have HNw := hide hnw
              clear hv8 hnw hfew HO2
              go_wp2_with fail
              refine HLe.out.mono ?_
              rintro y w9 ⟨A9, c9, rfl, hv9, hb9⟩
              have HG9 := hide (HG8.out.stay HC.out hb9)
              have hids := ids_any (log (part D a)) ((log D).filter fun y => decide (y ∈ bel D a)) A9 A8 c9 c8 _ _ w9 (vs_low hv9) (vs_keep HV8.out hb9) (by have := HNe.out; omega)
              rw [decide_eq_true HPl.out, ← HNw.out] at hids
              have HIds := hide hids
              generalize (log (part D a)).length = ne at *
              clear hv9 hb9 hids HLe HV8
              go_wp2_with fail
              refine HIds.out.mono ?_
              rintro y w10 ⟨rfl, hb10⟩
              have HG10 := hide (HG9.out.stay HC.out hb10)
              have hmy := HG10.out.many HC.out
              rw [HPa.out, ← HN.out] at hmy
              have HMy := hide hmy
              clear hb10 hmy HIds
              go_wp2_with fail
              refine HMy.out.mono ?_
              rintro y w11 ⟨rfl, hb11⟩
              have HG11 := hide (HG10.out.stay HC.out hb11)
              clear hb11 HMy
              go_wp2
              go_ret
              exact ⟨by simp, HG11.out.low⟩
end Go.Proofs.Ytplmcpdlommmaaa.Oq
