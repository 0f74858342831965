/-
  The law StoreCuts, over any store that keeps the contract.
-/
import Derived.BigQuiet
import Derived.Test.YtcmjdepjckhpdaaDoorQKN
namespace Go.Proofs.YtcmjdepjckhpdaaDoor.So
open Go Go.RowKit Kt Kg Wr Lw Sha Dk Dg

theorem own_cell {w : World} {E : TypeId} {A : Option Addr} {n c : Nat} {l : List Int} (h : OwN w 0 E (.slice A n c) l) {j : Nat} {y : Int} (hj : l[j]? = some y) : ∃ g, A = some ⟨g, 0, none⟩ ∧ g < w.heap.size ∧ w.cell? ⟨g, j, none⟩ = some (.int .i64 y) := by
  obtain ⟨g, cap, e, _, hg, hc⟩ := OwN.form h (by have := (List.getElem?_eq_some_iff.1 hj).1; omega)
  injection e with e _ _
  exact ⟨g, e, hg, hc j y hj⟩
theorem vs_take {w : World} {P : Nat → Prop} {A : Option Addr} {c : Nat} {l : List Bs} (h : Vs w P A c (texts l)) (k : Nat) : Vs w P A c (texts (l.take k)) := by
  refine ⟨?_, fun h0 => ?_⟩
  · have h1 := h.1
    rw [texts_len] at h1 ⊢
    rw [List.length_take]; omega
  · rw [texts_len, List.length_take] at h0
    obtain ⟨b, o, e, hp, hc⟩ := h.2 (by rw [texts_len]; omega)
    refine ⟨b, o, e, hp, fun j v hj => hc j v ?_⟩
    unfold texts at hj ⊢
    rw [List.map_take] at hj
    have hjk : j < k := by have := (List.getElem?_eq_some_iff.1 hj).1; rw [List.length_take] at this; omega
    rwa [List.getElem?_take, if_pos hjk] at hj
theorem cut_ids (w : World) (A : Option Addr) (n c k : Nat) (hk : k ≤ n) (hn : n ≤ c) :
    (Instr.slice 50 (.slice A n c) none (some (.int .i64 (k : Int))) none).run Tryd.prog w = .ok (.slice A k c) w := by
  have hu := run_underlying Tryd.underlying50
  have h1 : k ≤ c := by omega
  have h2 : ¬ c < k := by omega
  have h3 : (k : Int) ≤ (c : Int) := by omega
  have h4 : (0 : Int) ≤ (k : Int) ∧ (k : Int) ≤ (c : Int) := by omega
  cases A <;> go_simp
set_option maxRecDepth 100000 in
set_option maxHeartbeats 8000000 in
theorem lawCuts_any {In : World → (Nat → Prop) → Nat → Nat → List Bs → Prop} (left : Nat) (l : List Bs) (A : Option Addr) (c : Nat) (P : Nat → Prop) (w : World) (C : Ct w In) (hT : TabR w) (hs : Vs w P A c (texts l)) (hl : l.length ≤ 9223372036854775807) (hlf : left < 65536) :
    Calls Tryd.prog 7 #[.slice A l.length c, .int .u16 (left : Int)] w fun y w' => y = .returned (.bool true) ∧ Below w.heap.size w w' := by
  have HC := hide C
  have Hs := hide (vs_low hs)
  have Hw := hide (swake_any w C hT)
  have HEm := hide (fun wz => empty_any 5000 (by decide) wz)
  have Hl := hide hl
  obtain ⟨N, hN⟩ : ∃ N, N = l.length := ⟨_, rfl⟩
  have HN := hide hN
  rw [← hN] at hl ⊢
  have hwl : IntKind.i64.wrap (left : Int) = (left : Int) := IntWalk.i64_in _ (by omega)
  clear C hT hs hN hlf
  go_enter Tryd.func7, Tryd.ntmps7
  go_wp2_with fail
  refine Hw.out.mono ?_
  rintro y w1 ⟨rfl, hb1⟩
  have HB1 := hide hb1
  have HFew := hide (fewT_any l A c _ w1 (vs_keep Hs.out hb1) Hl.out)
  rw [← HN.out] at HFew
  clear hb1 Hw
  go_wp2_with fail
  refine HFew.out.mono ?_
  rintro y w2 ⟨rfl, hb2⟩
  have HB2 := hide (HB1.out.trans (hb2.mono HB1.out.size))
  clear hb2 HFew HB1
  cases hfe : fewT l with
  | false =>
    go_wp2
    go_ret
    exact ⟨rfl, HB2.out⟩
  | true =>
    have HFe := hide (fewT_spec hfe)
    clear hfe
    go_wp2_with fail
    refine (HEm.out w2).mono ?_
    rintro y w3 ⟨g, h, rfl, hd3, _, hg, hgh, hb3⟩
    have HB3 := hide (HB2.out.trans (hb3.mono HB2.out.size))
    have HG := hide (Nat.le_trans HB2.out.size hg)
    have HOp := hide (HC.out.born HB3.out hd3 (by decide) (fun k hk => by rw [hk]; exact HG.out))
    clear hd3 hg hgh hb3 HB2
    go_wp2_with fail
    refine HOp.out.mono ?_
    rintro y w4 ⟨gs, rfl, hp4, hb4, _⟩
    have HK4 := hide (KE.start HC.out hb4 hp4)
    have HF4 := hide (show CutF ⟨new 5000, []⟩ 0 from ⟨Good.new (new_fit (by decide)) rfl, ⟨rfl, rfl⟩, Nat.le_refl _, Nat.le_refl _, rfl⟩)
    clear hp4 hb4 HOp HB3
    go_wp2
    go_loopw [11, 12] (fun v i wr => ∃ (k : Nat) (v1 : Value) (x : Ss), v1 = v ∧ i = .int .i64 k ∧ k ≤ N ∧ Hid (CutF x k) ∧ Hid (KE In w wr gs g x v1 (endsOf x.L))) (fun _ i _ => N - (intOf i).toNat)
    case atStart => exact ⟨0, _, _, rfl, rfl, Nat.zero_le _, by show Hid _; exact HF4, by show Hid _; exact HK4⟩
    case round =>
      obtain ⟨k, v1, x, rfl, rfl, hk, HF, HK⟩ := hrel
      clear HF4 HK4
      by_cases hlt : k < N
      · obtain ⟨b, hx⟩ : ∃ b, l[k]? = some b := ⟨_, List.getElem?_eq_getElem (by have := HN.out; omega)⟩
        have hb60 : b.length ≤ 60 := HFe.out.1 b (List.mem_of_getElem? hx)
        obtain ⟨bb, oo, rfl, hpb, cx⟩ := vs_at Hs.out hx
        have hlK : x.L.length ≤ 900 := by have := HF.out.few; have := HFe.out.2; have := HN.out; omega
        have HMa := hide (HK.out.many HC.out (by omega))
        obtain ⟨m, hm⟩ : ∃ z, z = x.L.length := ⟨_, rfl⟩
        rw [← hm] at HMa
        have HLk := hide hlK
        have Hb60 := hide hb60
        have HM := hide hm
        have HX := hide (show ∀ wz : World, Below w.heap.size w wz → wz.cell? ⟨bb, oo + k, none⟩ = some (.string ⟨b.toArray⟩) from fun wz hz => (World.cell?_of_block (a := ⟨bb, oo + k, none⟩) (hz.block bb hpb)).trans cx)
        have HF6 := hide (HF.out.put hb60)
        have HGr := hide (put_grows (x := x) (b := b))
        have HNo := hide (fun (e : (So.put x b).1.L = x.L) => (show (So.put x b).1.L = x.L from e))
        clear hx hb60 hpb cx hlK hm
        go_wp2_with fail
        refine HMa.out.mono ?_
        rintro y w5 ⟨rfl, hb5⟩
        have HK5 := hide (HK.out.below HC.out hb5)
        clear hb5 HMa HK
        obtain ⟨cap, ob, hcv, hsl⟩ := conv_str b w5
        obtain ⟨q, hq⟩ : ∃ z, z = w5.heap.size := ⟨_, rfl⟩
        obtain ⟨wa, hwa⟩ : ∃ z, z = (w5.alloc ob).drew := ⟨_, rfl⟩
        have hba : Below w5.heap.size w5 wa := by rw [hwa]; exact ((Below.refl _ w5).alloc (Nat.le_refl _) _).drew
        have hsl : Sl wa (fun z => z = q) (some ⟨q, 0, none⟩) cap b := by rw [hwa, hq]; exact hsl
        have HPut := hide (HK5.out.put HC.out HF.out.good.fit b (by have := Hb60.out; omega) (by have := HLk.out; omega) hba (by omega) hsl)
        obtain ⟨nb, hnb⟩ : ∃ z, z = b.length := ⟨_, rfl⟩
        rw [← hnb] at hcv HPut
        rw [← hq] at hcv
        have HWa := hide hwa
        have hcx := HX.out w5 HK5.out.low
        clear hsl hba hwa hq hnb
        go_wp2_with fail
        rw [← HWa.out]
        refine HPut.out.mono ?_
        clear hcv hcx HPut
        rintro y w6 ⟨rfl, hk6⟩
        have HK6 := hide hk6
        clear hk6 HWa HK5
        rcases HGr.out with hp | ⟨hp, _⟩
        · have HMa := hide (HK6.out.many HC.out (by rw [hp]; have := HLk.out; omega))
          have HK6 := hide (show KE In w w6 gs g (So.put x b).1 v1 (endsOf (So.put x b).1.L) from by rw [hp]; exact HK6.out)
          rw [hp, ← HM.out] at HMa
          clear hp HGr HM HF HNo
          generalize (So.put x b).1 = x6 at *
          go_wp2_with fail
          refine HMa.out.mono ?_
          rintro y w7 ⟨rfl, hb7⟩
          have HK7 := hide (HK6.out.below HC.out hb7)
          clear hb7 HMa HK6
          go_wp2
          exact ⟨⟨k + 1, _, _, rfl, by go_num, by omega, by show Hid _; exact HF6, by show Hid _; exact HK7⟩, by simp [intOf]; omega⟩
        · have HMa := hide (HK6.out.many HC.out (by rw [hp, List.length_append, List.length_cons, List.length_nil]; have := HLk.out; omega))
          have hln : (So.put x b).1.L.length = m + 1 := by rw [hp, List.length_append, List.length_cons, List.length_nil, HM.out]
          rw [hln] at HMa
          have hal := HF6.out.good.alive HF6.out.plain.1
          have HEn := hide (show endsOf x.L ++ [((So.put x b).1.s.k.length : Int)] = endsOf (So.put x b).1.L by rw [hal, hp, endsOf_snoc])
          have HEl := hide (show (endsOf x.L).length + 1 ≤ 1000000000 by rw [endsOf_len]; have := HLk.out; omega)
          have hgt : decide ((m : Int) < ((m + 1 : Nat) : Int)) = true := decide_eq_true (by omega)
          have hgt2 : (m : Int) < (m : Int) + 1 := by omega
          clear hp HGr HM HF HNo hln hal
          generalize (So.put x b).1 = x6 at *
          obtain ⟨E0, hE0⟩ : ∃ z, z = endsOf x.L := ⟨_, rfl⟩
          rw [← hE0] at HEn HEl HK6
          clear hE0
          go_wp2_with fail
          refine HMa.out.mono ?_
          rintro y w7 ⟨rfl, hb7⟩
          have HK7 := hide (HK6.out.below HC.out hb7)
          have HSz := hide HK7.out.size
          obtain ⟨K6, hK6⟩ : ∃ z, z = x6.s.k.length := ⟨_, rfl⟩
          rw [← hK6] at HSz HEn
          clear hb7 HMa HK6 hK6
          go_wp2_with fail
          refine HSz.out.mono ?_
          rintro y w8 ⟨rfl, rfl⟩
          clear HSz
          go_wp2_with (at_builtin; go_loud (refine wpList_pushN2 rfl (.tmp 67) (.tmp 70) 58 rfl Tryd.underlying58 infoN v1 E0 (K6 : Int) _ rfl rfl rfl HK7.out.row HEl.out ?_; intro g9 cap9 w9 hown9 hg9 hor9; have HK9 := hide (HK7.out.push HC.out hg9 hown9 hor9); rw [HEn.out] at HK9; clear hown9 hg9 hor9))
          exact ⟨⟨k + 1, _, _, rfl, by go_num, by omega, by show Hid _; exact HF6, by show Hid _; exact HK9⟩, by simp [intOf]; omega⟩
      · obtain rfl : k = N := by omega
        obtain ⟨wo, hwo⟩ : ∃ z, z = wr := ⟨_, rfl⟩
        subst hwo
        have HT := hide HK.out.ts
        have hl16 : x.L.length ≤ 16 := by have := HF.out.few; have := HFe.out.2; have := HN.out; omega
        have hl1 : x.L.length ≤ 1000 := by omega
        have hkl : x.s.k.length ≤ 4000 := by have := HF.out.len; have := HFe.out.2; have := HN.out; omega
        have HI := hide (HT.out.ids HC.out (gs := gs) (by simp) hl1)
        have HL := hide hl1
        have HKl := hide hkl
        have Hl16 := hide hl16
        clear hl1 hkl hl16
        go_wp2_with fail
        refine HI.out.mono ?_
        rintro y w6 ⟨v6, rfl, hown6, hb6⟩
        obtain ⟨A6, c6, rfl, hv6⟩ := hown6.vs
        have ht6 := HT.out.below HC.out hb6
        have HV6 := hide (show Vs w6 (fun k => wo.heap.size ≤ k ∧ k < w6.heap.size) A6 c6 (texts (x.L.map sha)) from vs_imp hv6 fun b hlt hb => ⟨hb.1, hlt⟩)
        have HRow6 := hide (show OwN w6 0 tN v1 (endsOf x.L) from OwN.move HK.out.row fun b hb => hb6.block b (OwN.lt HK.out.row hb))
        have HSz := hide ht6.size
        rw [List.length_map]
        obtain ⟨M, hM⟩ : ∃ z, z = x.L.length := ⟨_, rfl⟩
        rw [← hM]
        have HM := hide hM
        obtain ⟨K0, hK0⟩ : ∃ z, z = x.s.k.length := ⟨_, rfl⟩
        rw [← hK0] at HSz
        have HK0 := hide hK0
        obtain ⟨n, hn⟩ : ∃ z, z = left % (K0 + 1) := ⟨_, rfl⟩
        have hnK : n ≤ K0 := by rw [hn]; have := Nat.mod_lt left (show 0 < K0 + 1 by omega); omega
        have hK4 : K0 ≤ 4000 := by rw [hK0]; exact HKl.out
        have hrm : (left : Int).tmod ((K0 : Int) + 1) = (n : Int) := by
          rw [hn, Int.ofNat_tmod]; rfl
        have hw2 : IntKind.i64.wrap (n : Int) = (n : Int) := IntWalk.i64_in _ (by omega)
        have hw3 : IntKind.i64.wrap ((K0 : Int) + 1) = (K0 : Int) + 1 := IntWalk.i64_in _ (by omega)
        have hne : ¬ ((K0 : Int) + 1 = 0) := by omega
        have hcut : Dk.cut x.s (n : Int) = (⟨x.s.k.take n, x.s.room, x.s.fuse, false⟩, 0) := by
          unfold Dk.cut
          rw [if_neg (by rw [HF.out.plain.1]; decide), if_neg (by rw [← hK0]; omega)]
          rfl
        have HCut := hide (ht6.turn HC.out (f := 30) (args := #[pt g, .int .i64 (n : Int)]) (s' := ⟨x.s.k.take n, x.s.room, x.s.fuse, false⟩) (v := .int .i64 ((0 : Nat) : Int)) fun Sd hd => (cut_any hd (n : Int)).mono fun y w' h => by
          rw [hcut] at h
          exact h)
        obtain ⟨kk, f1, f2, f3, f4, f5⟩ := front_open HF.out.good HF.out.plain.1 n
        have HFr := hide (And.intro f1 (And.intro f4 f5))
        have HOpn := hide (And.intro f2 f3)
        have HHn := hide (show n ≤ 4000 ∧ kk ≤ M from ⟨by omega, by rw [hM]; exact f1⟩)
        clear hown6 hb6 hv6 ht6 hM HI HT HK hK0 hn hcut f1 f2 f3 f4 f5 hnK
        go_wp2_with fail
        refine HSz.out.mono ?_
        rintro y w7 ⟨rfl, rfl⟩
        clear HSz
        go_wp2_with fail
        refine HCut.out.mono ?_
        rintro y w7 ⟨rfl, ht7, hs7⟩
        have HV7 := hide (vs_move HV6.out fun b hb => hs7 b (.inr hb))
        have HRow7 := hide (OwN.move HRow6.out fun b hb => hs7 b (.inl hb))
        have hfit : Dk.St.fit ⟨x.s.k.take n, x.s.room, x.s.fuse, false⟩ := by
          obtain ⟨q1, q2, q3, q4⟩ := HF.out.good.fit
          exact ⟨by show (x.s.k.take n).length ≤ x.s.room; rw [List.length_take]; omega, q2, q3, q4⟩
        have HOp := hide (ht7.again HC.out hfit rfl (by show (x.s.k.take n).length ≤ 4000; rw [List.length_take]; have := HHn.out.1; omega) HOpn.out.1)
        clear ht7 hs7 HCut HV6 HRow6 hfit hrm hw2 hw3 hne
        go_wp2_with fail
        refine HOp.out.mono ?_
        rintro y w8 ⟨gt, rfl, _, ht8, _, hs8⟩
        rw [HOpn.out.2] at ht8
        have HV8 := hide (vs_move HV7.out fun b hb => hs8 b (.inr hb))
        have HRow8 := hide (OwN.move HRow7.out fun b hb => hs8 b (.inl hb))
        have HT8 := hide ht8
        obtain ⟨A9, c9, e9, _⟩ : ∃ A9 c9, v1 = .slice A9 (endsOf x.L).length c9 ∧ True := by
          rcases HRow8.out.2 with ⟨e, h0⟩ | ⟨g9, cap9, cur9, e, _⟩
          · exact ⟨none, 0, by rw [e, h0], trivial⟩
          · exact ⟨_, cap9, e, trivial⟩
        rw [endsOf_len, ← HM.out] at e9
        subst e9
        clear ht8 hs8 HOp HV7 HRow7
        have hHm := HHn.out.2
        have hHn := HHn.out.1
        have hM16 : M ≤ 16 := by rw [HM.out]; exact Hl16.out
        have HB8 := hide (Below.refl w8.heap.size w8)
        go_wp2
        go_loopw [19, 20, 21] (fun a b i wz => ∃ (j m s : Nat), i = .int .i64 j ∧ a = .int .i64 m ∧ b = .int .i64 s ∧ j ≤ M ∧ m ≤ j ∧ Hid (m = min j kk ∧ s = (recs (x.L.take (min j kk))).length) ∧ Hid (Below w8.heap.size w8 wz)) (fun _ _ i _ => M - (intOf i).toNat)
        case atStart => exact ⟨0, 0, 0, rfl, rfl, rfl, Nat.zero_le _, Nat.zero_le _, by show Hid _; exact hide ⟨by omega, by rw [Nat.min_eq_left (Nat.zero_le _)]; rfl⟩, by show Hid _; exact HB8⟩
        case round =>
          obtain ⟨j, m, s, rfl, rfl, rfl, hj, hmj, HMs, HB⟩ := hrel
          clear HB8
          by_cases hlt : j < M
          · obtain ⟨e, he⟩ : ∃ z, z = (recs (x.L.take (j + 1))).length := ⟨_, rfl⟩
            have hat := endsOf_at x.L (i := j) (by rw [← HM.out]; exact hlt)
            rw [← he] at hat
            obtain ⟨g9, rfl, hg9, k9⟩ := own_cell HRow8.out hat
            have k0 := (World.cell?_of_block (a := ⟨g9, j, none⟩) (HB.out.block g9 hg9)).trans k9
            have HE := hide he
            by_cases hjk : j < kk
            · have hen : e ≤ n := by
                rw [he]
                exact Nat.le_trans (recs_take x.L (j + 1) kk hjk) HFr.out.2.1
              have HN2 := hide (show m + 1 = min (j + 1) kk ∧ e = (recs (x.L.take (min (j + 1) kk))).length from ⟨by have := HMs.out.1; omega, by rw [Nat.min_eq_left (by omega)]; exact he⟩)
              have hd := decide_eq_true (show (e : Int) ≤ (n : Int) by omega)
              clear hat k9 he
              go_wp2
              exact ⟨⟨j + 1, m + 1, e, by go_num, by go_num, rfl, by omega, by omega, by show Hid _; exact HN2, by show Hid _; exact HB⟩, by simp [intOf]; omega⟩
            · have hen : n < e := by
                rw [he]
                exact HFr.out.2.2 (j + 1) (by omega) (by rw [← HM.out]; omega)
              have HN2 := hide (show m = min (j + 1) kk ∧ s = (recs (x.L.take (min (j + 1) kk))).length from by
                have h1 := HMs.out
                rw [Nat.min_eq_right (by omega)] at h1 ⊢
                exact h1)
              have hd := decide_eq_false (show ¬ (e : Int) ≤ (n : Int) by omega)
              have hd2 : ¬ e ≤ n := by omega
              clear hat k9 he
              go_wp2
              exact ⟨⟨j + 1, m, s, by go_num, rfl, rfl, by omega, by omega, by show Hid _; exact HN2, by show Hid _; exact HB⟩, by simp [intOf]; omega⟩
          · obtain rfl : j = M := by omega
            obtain ⟨hm, hs⟩ := HMs.out
            rw [Nat.min_eq_right hHm] at hm hs
            subst hm
            have hlk : (x.L.take m).length = m := by rw [List.length_take, ← HM.out]; omega
            have hlk1 : (x.L.take m).length ≤ 1000 := by omega
            have HTz := hide (fun (wy : World) (hz : Below w8.heap.size w8 wy) => HT8.out.below HC.out hz)
            have HMa := hide (fun (wy : World) (hz : Below w8.heap.size w8 wy) => (HTz.out wy hz).many HC.out (gs := gt) (by simp) hlk1)
            have HSz := hide (fun (wy : World) (hz : Below w8.heap.size w8 wy) => (HTz.out wy hz).size)
            have HId := hide (fun (wy : World) (hz : Below w8.heap.size w8 wy) => (HTz.out wy hz).ids HC.out (gs := gt) (by simp) hlk1)
            simp only [hlk] at HMa
            simp only [← hs] at HSz
            have hil : ((x.L.take m).map sha).length = m := by rw [List.length_map]; exact hlk
            have HVp := hide (fun (wy : World) (hz : Below w8.heap.size w8 wy) => show Vs wy (fun k => wo.heap.size ≤ k ∧ k < w6.heap.size) A6 c6 (texts ((x.L.take m).map sha)) from by
              rw [List.map_take]
              exact vs_take (vs_move HV8.out fun b hb => hz.block b (by
                obtain ⟨_, Sd, _, _, _, h5⟩ := HT8.out
                exact (h5 b (.inr hb)).1)) m)
            have HLow := hide HT8.out.low
            have hc6 : j ≤ c6 := by have h1 := HV8.out.1; rw [texts_len, List.length_map, ← HM.out] at h1; exact h1
            have hcut : ∀ u, (Instr.slice 50 (.slice A6 j c6) none (some (.int .i64 (m : Int))) none).run Tryd.prog u = .ok (.slice A6 m c6) u := fun u => cut_ids u A6 j c6 m hHm hc6
            obtain ⟨ids, hids⟩ : ∃ z, z = (x.L.take m).map sha := ⟨_, rfl⟩
            rw [← hids] at hil
            simp only [← hids] at HId HVp
            have HIl := hide hil
            have q1 : ((j : Int) == (j : Int)) = true := by simp
            have q2 : ((m : Int) == (m : Int)) = true := by simp
            have q3 : ((s : Int) == (s : Int)) = true := by simp
            have HBd := hide (show Below w8.heap.size w8 wr.drew from HB.out.drew)
            clear HMs hmj hj hs hlk hlk1 hids hil hc6 HTz HT8 HRow8 HV8 HFr HOpn HF
            go_wp2
            refine Rg.wp_region_ord (fun _ => True) [(0, true), (1, true), (2, true), (3, true), (4, true), (5, true), (6, true), (7, true), (8, true), (9, true), (11, true), (10, false), (12, true), (13, true), (14, true), (15, true), (17, true), (16, false), (18, true), (19, true), (20, true), (21, true), (23, true), (24, true), (25, true), (22, false), (26, false), (27, true), (28, true)] (by kernel_rfl) (by kernel_rfl) ?_
            simp only [Rg.pick, List.map_cons, List.map_nil, List.getD_cons_zero, List.getD_cons_succ]
            iterate 2 (refine Rg.ord_quiet (v := ?_) rfl (fun w' hS => ?_) trivial ?_; rotate_left; (clear hS; go_simp; with_reducible rfl); simp only [Act.put, List.setIfInBounds_toArray, List.set_cons_succ, List.set_cons_zero])
            iterate 5 (refine Rg.ord_guarded (v := ?_) (by rfl) (fun w' hS => ?_) trivial ?_; rotate_left; (clear hS; go_simp; with_reducible rfl); simp only [Act.put, List.setIfInBounds_toArray, List.set_cons_succ, List.set_cons_zero])
            iterate 2 (refine Rg.ord_quiet (v := ?_) rfl (fun w' hS => ?_) trivial ?_; rotate_left; (clear hS; go_simp; with_reducible rfl); simp only [Act.put, List.setIfInBounds_toArray, List.set_cons_succ, List.set_cons_zero])
            iterate 2 (refine Rg.ord_guarded (v := ?_) (by rfl) (fun w' hS => ?_) trivial ?_; rotate_left; (clear hS; go_simp; with_reducible rfl); simp only [Act.put, List.setIfInBounds_toArray, List.set_cons_succ, List.set_cons_zero])
            refine Rg.ord_loud (by rfl) (fun K hK => ?_)
            go_simp
            refine (HMa.out _ HBd.out).mono ?_
            rintro y w17 ⟨rfl, hb17⟩
            have HB17 := hide (HBd.out.trans (hb17.mono HBd.out.size))
            clear hb17 HMa
            refine hK _ _ (fun _ => trivial) ?_
            clear hK K
            iterate 1 (refine Rg.ord_guarded (v := ?_) (by rfl) (fun w' hS => ?_) trivial ?_; rotate_left; (clear hS; go_simp; with_reducible rfl); simp only [Act.put, List.setIfInBounds_toArray, List.set_cons_succ, List.set_cons_zero])
            iterate 2 (refine Rg.ord_quiet (v := ?_) rfl (fun w' hS => ?_) trivial ?_; rotate_left; (clear hS; go_simp; with_reducible rfl); simp only [Act.put, List.setIfInBounds_toArray, List.set_cons_succ, List.set_cons_zero])
            iterate 2 (refine Rg.ord_guarded (v := ?_) (by rfl) (fun w' hS => ?_) trivial ?_; rotate_left; (clear hS; go_simp; with_reducible rfl); simp only [Act.put, List.setIfInBounds_toArray, List.set_cons_succ, List.set_cons_zero])
            refine Rg.ord_loud (by rfl) (fun K hK => ?_)
            go_simp
            refine (HSz.out _ HB17.out).mono ?_
            rintro y w18 ⟨rfl, rfl⟩
            clear HSz
            refine hK _ _ (fun _ => trivial) ?_
            clear hK K
            iterate 1 (refine Rg.ord_guarded (v := ?_) (by rfl) (fun w' hS => ?_) trivial ?_; rotate_left; (clear hS; go_simp; with_reducible rfl); simp only [Act.put, List.setIfInBounds_toArray, List.set_cons_succ, List.set_cons_zero])
            iterate 2 (refine Rg.ord_quiet (v := ?_) rfl (fun w' hS => ?_) trivial ?_; rotate_left; (clear hS; go_simp; with_reducible rfl); simp only [Act.put, List.setIfInBounds_toArray, List.set_cons_succ, List.set_cons_zero])
            iterate 4 (refine Rg.ord_guarded (v := ?_) (by rfl) (fun w' hS => ?_) trivial ?_; rotate_left; (clear hS; go_simp; with_reducible rfl); simp only [Act.put, List.setIfInBounds_toArray, List.set_cons_succ, List.set_cons_zero])
            refine Rg.ord_loud (by rfl) (fun K hK => ?_)
            go_simp
            refine (HId.out _ HB17.out).mono ?_
            rintro y w19 ⟨v19, rfl, hown19, hb19⟩
            obtain ⟨A19, c19, rfl, hv19⟩ := hown19.vs
            have HB19 := hide (HB17.out.trans (hb19.mono HB17.out.size))
            have HIa := hide (ids_any ids ids A19 A6 c19 c6 _ _ w19 hv19 (HVp.out _ HB19.out) (by rw [HIl.out]; omega))
            rw [decide_eq_true rfl, HIl.out] at HIa
            rw [HIl.out]
            clear hown19 hb19 hv19 HId
            refine hK _ _ (fun _ => trivial) ?_
            clear hK K
            refine Rg.ord_loud (by rfl) (fun K hK => ?_)
            go_simp
            refine HIa.out.mono ?_
            rintro y w20 ⟨rfl, hb20⟩
            have HB20 := hide (HLow.out.trans ((HB19.out.trans (hb20.mono HB19.out.size)).mono HLow.out.size))
            clear hb20 HIa
            refine hK _ _ (fun _ => trivial) ?_
            clear hK K
            iterate 2 (refine Rg.ord_quiet (v := ?_) rfl (fun w' hS => ?_) trivial ?_; rotate_left; (clear hS; go_simp; with_reducible rfl); simp only [Act.put, List.setIfInBounds_toArray, List.set_cons_succ, List.set_cons_zero])
            refine Rg.ord_nil ?_
            go_wp2
            go_ret
            exact ⟨rfl, HB20.out⟩
end Go.Proofs.YtcmjdepjckhpdaaDoor.So
