/-
  The law StoreTears, over any store that keeps the contract.
-/
import Derived.Test.YtcmjdepjckhpdaaDoorYP
import Derived.Test.YtcmjdepjckhpdaaDoorYO
namespace Go.Proofs.YtcmjdepjckhpdaaDoor.So
open Go Go.RowKit Kt Kg Wr Lw Sha Dk Dg

theorem vs_move {w w' : World} {P : Nat → Prop} {A : Option Addr} {c : Nat} {vs : List Value} (h : Vs w P A c vs) (hk : ∀ b, P b → w'.heap[b]? = w.heap[b]?) : Vs w' P A c vs :=
  ⟨h.1, fun h0 => by
    obtain ⟨b, o, e, hp, hc⟩ := h.2 h0
    exact ⟨b, o, e, hp, fun j v hj => (World.cell?_of_block (a := ⟨b, o + j, none⟩) (hk b hp)).trans (hc j v hj)⟩⟩
theorem vs_imp {w : World} {P Q : Nat → Prop} {A : Option Addr} {c : Nat} {vs : List Value} (h : Vs w P A c vs) (hi : ∀ b, b < w.heap.size → P b → Q b) : Vs w Q A c vs :=
  ⟨h.1, fun h0 => by
    obtain ⟨b, o, e, hp, hc⟩ := h.2 h0
    exact ⟨b, o, e, hi b (World.block_lt_of_cell? w _ (hc 0 _ (List.getElem?_eq_getElem h0))) hp, hc⟩⟩
theorem fused_good {n m : Nat} (hn : n ≤ 16777216) (hm : m < 65536) : Good ⟨fused (new n) (m : Int), []⟩ := Good.new (fused_fit (new_fit hn) (by omega)) rfl
/-- what holds between two puts -/
structure TearF (x : Ss) (k room : Nat) : Prop where
  good : Good x
  few : x.L.length ≤ k
  len : x.s.k.length ≤ 65 * k
  room : x.s.room = room
theorem TearF.put {x : Ss} {k room : Nat} {b : Bs} (h : TearF x k room) (hb : b.length ≤ 60) : TearF (So.put x b).1 (k + 1) room :=
  ⟨h.good.put b, by have := put_many (x := x) (b := b); have := h.few; omega, by have := put_len h.good.fit hb; have := h.len; omega, (put_room b).trans h.room⟩
theorem begunFit14 {s : Dk.St} (h : s.fit) : (Dk.begun s).fit := ⟨h.1, h.2.1, by simp [Dk.begun], by simp [Dk.begun]⟩
set_option maxRecDepth 100000 in
set_option maxHeartbeats 8000000 in
theorem lawTears_any {In : World → (Nat → Prop) → Nat → Nat → List Bs → Prop} (fuse : Nat) (l : List Bs) (A : Option Addr) (c : Nat) (P : Nat → Prop) (w : World) (C : Ct w In) (hT : TabR w) (hs : Vs w P A c (texts l)) (hl : l.length ≤ 9223372036854775807) :
    Calls Tryd.prog 5 #[.slice A l.length c, .int .u16 (fuse : Int)] w fun y w' => y = .returned (.bool true) ∧ Below w.heap.size w w' := by
  have HC := hide C
  have Hs := hide (vs_low hs)
  have Hw := hide (swake_any w C hT)
  have HEm := hide (fun wz => empty_any 5000 (by decide) wz)
  have Hl := hide hl
  obtain ⟨N, hN⟩ : ∃ N, N = l.length := ⟨_, rfl⟩
  have HN := hide hN
  rw [← hN] at hl ⊢
  clear C hT hs hN
  have hrm : (fuse : Int).tmod 1200 = ((fuse % 1200 : Nat) : Int) := by rw [Int.ofNat_tmod]; rfl
  obtain ⟨n, hn⟩ : ∃ n, n = fuse % 1200 := ⟨_, rfl⟩
  have hn2 : n ≤ 1200 := by omega
  rw [← hn] at hrm
  have hw1 : IntKind.u16.wrap (n : Int) = (n : Int) := by rw [IntKind.wrap_u16]; omega
  have hw2 : IntKind.i64.wrap (n : Int) = (n : Int) := IntWalk.i64_in _ (by omega)
  have Hn2 := hide hn2
  clear hn hn2
  go_enter Tryd.func5, Tryd.ntmps5
  go_wp2_with fail
  refine Hw.out.mono ?_
  rintro y w1 ⟨rfl, hb1⟩
  have HB1 := hide hb1
  have HFew := hide (fewT_any l A c _ w1 (vs_keep Hs.out hb1) Hl.out)
  rw [← HN.out] at HFew
  clear hb1 Hw
  go_wp2_with fail
  refine HFew.out.mono ?_
  rintro y w2 ⟨rfl, hb2⟩
  have HB2 := hide (HB1.out.trans (hb2.mono HB1.out.size))
  clear hb2 HFew HB1
  cases hfe : fewT l with
  | false =>
    go_wp2
    go_ret
    exact ⟨rfl, HB2.out⟩
  | true =>
    have HFe := hide (fewT_spec hfe)
    clear hfe
    go_wp2_with fail
    refine (HEm.out w2).mono ?_
    rintro y w3 ⟨g, h, rfl, hd3, _, hg, hgh, hb3⟩
    have HB3 := hide (HB2.out.trans (hb3.mono HB2.out.size))
    have HG := hide (Nat.le_trans HB2.out.size hg)
    have HOp := hide (HC.out.born HB3.out hd3 (by decide) (fun k hk => by rw [hk]; exact HG.out))
    clear hd3 hg hgh hb3 HB2
    go_wp2_with fail
    refine HOp.out.mono ?_
    rintro y w4 ⟨gs, rfl, hp4, hb4, _⟩
    have HFu := hide (hp4.disk HC.out hb4 (f := 14) (args := #[pt g, .int .i64 (n : Int)]) (s' := fused (new 5000) (n : Int)) (v := .tuple #[]) fun Sd hd => (fuse_any hd (n : Int)).mono fun y w' h => ⟨h.1, Sd, h.2.1, h.2.2, fun k hk => .inl hk⟩)
    clear hp4 hb4 HOp HB3
    go_wp2_with fail
    refine HFu.out.mono ?_
    rintro y w5 ⟨rfl, hp5, _, hb5⟩
    have HK5 := hide (KI.start HC.out hb5 hp5)
    have HF5 := hide (show TearF ⟨fused (new 5000) (n : Int), []⟩ 0 5000 from ⟨fused_good (by decide) (by have := Hn2.out; omega), Nat.le_refl _, Nat.le_refl _, rfl⟩)
    clear hp5 hb5 HFu hrm hw1 hw2
    go_wp2
    go_loopw [11] (fun i wr => ∃ (k : Nat) (x : Ss), i = .int .i64 k ∧ k ≤ N ∧ Hid (TearF x k 5000) ∧ Hid (KI In w wr gs g x (.slice none 0 0) (.slice none 0 0) [] [])) (fun i _ => N - (intOf i).toNat)
    case atStart => exact ⟨0, _, rfl, Nat.zero_le _, by show Hid _; exact HF5, by show Hid _; exact HK5⟩
    case round =>
      obtain ⟨k, x, rfl, hk, HF, HK⟩ := hrel
      clear HF5 HK5
      by_cases hlt : k < N
      · obtain ⟨b, hx⟩ : ∃ b, l[k]? = some b := ⟨_, List.getElem?_eq_getElem (by have := HN.out; omega)⟩
        have hb60 : b.length ≤ 60 := HFe.out.1 b (List.mem_of_getElem? hx)
        obtain ⟨bb, oo, rfl, hpb, cx⟩ := vs_at Hs.out hx
        have hlK : x.L.length ≤ 1000 := by have := HF.out.few; have := HFe.out.2; have := HN.out; omega
        obtain ⟨cap, ob, hcv, hsl⟩ := conv_str b wr
        obtain ⟨q, hq⟩ : ∃ z, z = wr.heap.size := ⟨_, rfl⟩
        obtain ⟨wa, hwa⟩ : ∃ z, z = (wr.alloc ob).drew := ⟨_, rfl⟩
        have hba : Below wr.heap.size wr wa := by rw [hwa]; exact ((Below.refl _ wr).alloc (Nat.le_refl _) _).drew
        have hsl : Sl wa (fun z => z = q) (some ⟨q, 0, none⟩) cap b := by rw [hwa, hq]; exact hsl
        have HPut := hide (HK.out.put HC.out HF.out.good.fit b (by omega) hlK hba (by omega) hsl)
        obtain ⟨nb, hnb⟩ : ∃ z, z = b.length := ⟨_, rfl⟩
        rw [← hnb] at hcv HPut
        rw [← hq] at hcv
        have HWa := hide hwa
        have HF6 := hide (HF.out.put hb60)
        have hcx : wr.cell? ⟨bb, oo + k, none⟩ = some (.string ⟨b.toArray⟩) := (World.cell?_of_block (a := ⟨bb, oo + k, none⟩) (HK.out.low.block bb hpb)).trans cx
        clear hx hb60 hpb cx hlK hsl hba hwa hq hnb
        go_wp2_with fail
        rw [← HWa.out]
        refine HPut.out.mono ?_
        clear hcv hcx HPut
        rintro y w6 ⟨rfl, hk6, _⟩
        have HK6 := hide hk6
        clear hk6
        go_wp2
        exact ⟨⟨k + 1, _, by go_num, by omega, by show Hid _; exact HF6, by show Hid _; exact HK6⟩, by simp [intOf]; omega⟩
      · obtain rfl : k = N := by omega
        obtain ⟨U, hps, _⟩ := HK.out.ps
        have HT := hide (TS.of HK.out.low hps)
        have hl16 : x.L.length ≤ 16 := by have := HF.out.few; have := HFe.out.2; have := HN.out; omega
        have hl1 : x.L.length ≤ 1000 := by omega
        have hkl : x.s.k.length ≤ 4000 := by have := HF.out.len; have := HFe.out.2; have := HN.out; omega
        have HI := hide (HT.out.ids HC.out (gs := gs) (by simp) hl1)
        have HL := hide hl1
        have HKl := hide hkl
        have Hl16 := hide hl16
        clear hps hl1 hkl hl16 HK
        go_wp2_with fail
        refine HI.out.mono ?_
        rintro y w6 ⟨v6, rfl, hown6, hb6⟩
        obtain ⟨A6, c6, rfl, hv6⟩ := hown6.vs
        have ht6 := HT.out.below HC.out hb6
        have hv6' : Vs w6 (fun k => False ∨ (wr.heap.size ≤ k ∧ k < w6.heap.size)) A6 c6 (texts (x.L.map sha)) := vs_imp hv6 fun b hlt hb => .inr ⟨hb.1, hlt⟩
        have HSt := hide (ht6.turn HC.out (f := 24) (args := #[pt g]) (s' := Dk.begun x.s) (v := .tuple #[]) fun Sd hd => (start_any hd).mono fun y w' h => ⟨h.1, Sd, h.2.1, h.2.2, fun k hk => .inl hk⟩)
        have HV6 := hide hv6'
        rw [List.length_map]
        obtain ⟨M, hM⟩ : ∃ z, z = x.L.length := ⟨_, rfl⟩
        rw [← hM]
        have HM := hide hM
        clear hown6 hb6 hv6 ht6 hv6' hM HI HT
        go_wp2_with fail
        refine HSt.out.mono ?_
        rintro y w7 ⟨rfl, ht7, hs7⟩
        have HV7 := hide (vs_move HV6.out hs7)
        have HOp := hide (ht7.again HC.out (begunFit14 HF.out.good.fit) rfl HKl.out HF.out.good.opened)
        clear ht7 hs7 HSt HV6
        go_wp2_with fail
        refine HOp.out.mono ?_
        rintro y w8 ⟨gt, rfl, _, _, ht8, hs8⟩
        have HV8 := hide (vs_move HV7.out hs8)
        have ht8 := ht8 trivial
        rw [show (Dk.begun x.s).k.take (recs x.L).length = recs x.L from HF.out.good.kept, show (Dk.begun x.s).room = 5000 from HF.out.room, show (Dk.begun x.s).fuse = -1 from rfl] at ht8
        have HT8 := hide ht8
        have hrl : (recs x.L).length ≤ 4000 := by
          have h1 := congrArg List.length HF.out.good.kept
          rw [List.length_take] at h1
          have := HKl.out
          omega
        have hfit : Dk.St.fit ⟨recs x.L, 5000, -1, false⟩ := ⟨by show (recs x.L).length ≤ 5000; omega, by show 5000 ≤ 16777216; omega, by show (-1 : Int) ≤ -1; omega, by show (-1 : Int) ≤ _; omega⟩
        have hgy : Good ⟨⟨recs x.L, 5000, -1, false⟩, x.L⟩ := ⟨hfit, HF.out.good.short, HF.out.good.once, [], Torn.nil, by simp, fun _ => rfl⟩
        have HGy := hide hgy
        have HBy := hide (ht8.bytes hfit)
        have HRl := hide hrl
        clear ht8 hs8 hrl hfit hgy HOp HV7
        go_wp2_with fail
        refine HBy.out.mono ?_
        rintro y w9 ⟨v9, rfl, hown9, hb9⟩
        obtain ⟨A9, c9, rfl, hs9⟩ := hown9.sl
        have ht9 := HT8.out.below HC.out hb9
        have hf9 : ∀ k, (False ∨ (wr.heap.size ≤ k ∧ k < w6.heap.size)) → w9.heap[k]? = w8.heap[k]? := fun k hk => by
          obtain ⟨_, Sd, _, _, _, h5⟩ := HT8.out
          exact hb9.block k (h5 k hk).1
        have HV9 := hide (vs_move HV8.out hf9)
        have HS9 := hide (show Sl w9 (fun k => (False ∨ (wr.heap.size ≤ k ∧ k < w6.heap.size)) ∨ (w8.heap.size ≤ k ∧ k < w9.heap.size)) A9 c9 (recs x.L) from hs9.imp fun b hlt hb => .inr ⟨hb.1, hlt⟩)
        have HOp := hide (ht9.again HC.out HGy.out.fit rfl HRl.out HGy.out.opened)
        obtain ⟨R, hR⟩ : ∃ z, z = (recs x.L).length := ⟨_, rfl⟩
        simp only [← hR]
        have HR := hide hR
        clear hown9 hb9 hs9 ht9 hf9 HBy HV8 HT8 hR
        go_wp2_with fail
        refine HOp.out.mono ?_
        rintro y w10 ⟨gu, rfl, _, _, ht10, hs10⟩
        have ht10 := ht10 trivial
        rw [show (recs x.L).take (recs x.L).length = recs x.L from List.take_length] at ht10
        have HV10 := hide (vs_move HV9.out fun b hb => hs10 b (.inl hb))
        have HS10 := hide (HS9.out.move (w' := w10) fun b hb _ => hs10 b hb)
        obtain ⟨F, hF⟩ : ∃ F : Nat → Prop, F = fun k => (False ∨ (wr.heap.size ≤ k ∧ k < w6.heap.size)) ∨ (w8.heap.size ≤ k ∧ k < w9.heap.size) := ⟨_, rfl⟩
        have HV10 := hide (vs_imp (Q := F) HV10.out fun b _ hb => by rw [hF]; exact .inl hb)
        rw [← hF] at ht10 HS10
        have HT := hide (fun (wz : World) (hz : Below w10.heap.size w10 wz) => (ht10.below HC.out hz).imp (F' := F) fun k hk => .inl hk)
        have hFl : ∀ k, F k → k < w10.heap.size := by
          obtain ⟨_, Sd, _, _, _, h5⟩ := ht10
          exact fun k hk => (h5 k hk).1
        have HV := hide (fun (wz : World) (hz : Below w10.heap.size w10 wz) => vs_move HV10.out fun b hb => hz.block b (hFl b hb))
        have HS := hide (fun (wz : World) (hz : Below w10.heap.size w10 wz) => HS10.out.move (w' := wz) fun b hb _ => hz.block b (hFl b hb))
        have hgt : gt ∈ [gu, gt, gs] := by simp
        have hgu : gu ∈ [gu, gt, gs] := by simp
        have hgs : gs ∈ [gu, gt, gs] := by simp
        have HGt := hide hgt
        have HGu := hide hgu
        have HGs := hide hgs
        obtain ⟨ids, hids⟩ : ∃ z, z = x.L.map sha := ⟨_, rfl⟩
        have HIl := hide (show ids.length = M by rw [hids, List.length_map, HM.out])
        have HIds := hide hids
        have HId := hide (fun (wz : World) (hz : Below w10.heap.size w10 wz) (gg : Nat) (hg : gg ∈ [gu, gt, gs]) => (HT.out wz hz).ids HC.out hg HL.out)
        have HGet := hide (fun (wz : World) (hz : Below w10.heap.size w10 wz) (gg : Nat) (hg : gg ∈ [gu, gt, gs]) => (HT.out wz hz).get HC.out hg HL.out)
        have HLow := hide ht10.low
        rw [← hids] at HV HId
        clear ht10 hs10 hF hFl hgt hgu hgs hids HOp HV9 HS9 HV10 HS10
        have HB10 := hide (Below.refl w10.heap.size w10)
        have HI := hide (HId.out w10 HB10.out gt HGt.out)
        go_wp2_with fail
        refine HI.out.mono ?_
        rintro y w11 ⟨v11, rfl, hown11, hb11⟩
        obtain ⟨A11, c11, rfl, hv11⟩ := hown11.vs
        have HB11 := hide (HB10.out.trans (hb11.mono HB10.out.size))
        have HIa := hide (ids_any ids ids A11 A6 c11 c6 _ _ w11 hv11 (HV.out w11 HB11.out) (by have := HIl.out; have := HM.out; have := HL.out; omega))
        rw [decide_eq_true rfl, HIl.out] at HIa
        rw [HIl.out]
        clear hown11 hb11 hv11 HI
        go_wp2_with fail
        refine HIa.out.mono ?_
        rintro y w12 ⟨rfl, hb12⟩
        have HB12 := hide (HB11.out.trans (hb12.mono HB11.out.size))
        have HI := hide (HId.out w12 HB12.out gu HGu.out)
        clear hb12 HIa
        go_wp2_with fail
        refine HI.out.mono ?_
        rintro y w13 ⟨v13, rfl, hown13, hb13⟩
        obtain ⟨A13, c13, rfl, hv13⟩ := hown13.vs
        have HB13 := hide (HB12.out.trans (hb13.mono HB12.out.size))
        have HIa := hide (ids_any ids ids A13 A6 c13 c6 _ _ w13 hv13 (HV.out w13 HB13.out) (by have := HIl.out; have := HM.out; have := HL.out; omega))
        rw [decide_eq_true rfl, HIl.out] at HIa
        rw [HIl.out]
        clear hown13 hb13 hv13 HI
        go_wp2_with fail
        refine HIa.out.mono ?_
        rintro y w14 ⟨rfl, hb14⟩
        have HB14 := hide (HB13.out.trans (hb14.mono HB13.out.size))
        have HBy := hide ((HT.out w14 HB14.out).bytes HGy.out.fit)
        clear hb14 HIa
        go_wp2_with fail
        refine HBy.out.mono ?_
        rintro y w15 ⟨v15, rfl, hown15, hb15⟩
        obtain ⟨A15, c15, rfl, hs15⟩ := hown15.sl
        have HB15 := hide (HB14.out.trans (hb15.mono HB14.out.size))
        have HCm := hide (bytes_two (recs x.L) (recs x.L) A9 A15 R R c9 c15 _ _ w15 (HS.out w15 HB15.out) hs15 HR.out HR.out (by have := HRl.out; omega))
        rw [decide_eq_true rfl] at HCm
        simp only [← HR.out]
        clear hown15 hb15 hs15 HBy
        go_wp2_with fail
        refine HCm.out.mono ?_
        rintro y w16 ⟨rfl, hb16⟩
        have HB16 := hide (HB15.out.trans (hb16.mono HB15.out.size))
        have hM16 : M ≤ 16 := by rw [HM.out]; exact Hl16.out
        clear hb16 HCm HB10 HB11 HB12 HB13 HB14 HB15 HS
        go_wp2
        go_loopw [18] (fun i wz => ∃ j : Nat, i = .int .i64 j ∧ j ≤ M ∧ Hid (Below w10.heap.size w10 wz)) (fun i _ => M - (intOf i).toNat)
        case atStart => exact ⟨0, rfl, Nat.zero_le _, by show Hid _; exact HB16⟩
        case round =>
          obtain ⟨j, rfl, hj, HB⟩ := hrel
          rename_i wz
          clear HB16
          by_cases hlt : j < M
          · obtain ⟨b, hb⟩ : ∃ b, x.L[j]? = some b := ⟨_, List.getElem?_eq_getElem (by have := HM.out; omega)⟩
            have hid : ids[j]? = some (sha b) := by rw [HIds.out, List.getElem?_map, hb]; rfl
            have HGo := hide (got_is HF.out.good.once hb)
            have HCe := hide (fun (wy : World) (hz : Below w10.heap.size w10 wy) => vs_at (HV.out wy hz) hid)
            have HBl := hide (show b.length ≤ 9223372036854775807 by have := HF.out.good.short b (List.mem_of_getElem? hb); omega)
            obtain ⟨I, hI⟩ : ∃ z, z = sha b := ⟨_, rfl⟩
            rw [← hI] at HGo HCe
            obtain ⟨ab, ao, e6, _, k0⟩ := HCe.out _ HB.out
            subst e6
            have HG1 := hide (HGet.out _ HB.out gs HGs.out I)
            rw [HGo.out] at HG1
            simp only [Option.isSome_some, Option.getD_some] at HG1
            obtain ⟨nb, hnb⟩ : ∃ z, z = b.length := ⟨_, rfl⟩
            have HNb := hide hnb
            clear hb hid hI hnb
            go_wp2_with fail
            refine HG1.out.mono ?_
            rintro y w17 ⟨v17, rfl, hown17, hb17⟩
            obtain ⟨A17, c17, rfl, hs17⟩ := hown17.sl
            rw [← HNb.out]
            have HB17 := hide (HB.out.trans (hb17.mono HB.out.size))
            have HS17 := hide hs17.bound
            obtain ⟨ab', ao', e6, _, k1⟩ := HCe.out _ HB17.out
            injection e6 with e6
            injection e6 with e6 e7 _
            subst e6 e7
            have HG1 := hide (HGet.out _ HB17.out gt HGt.out I)
            rw [HGo.out] at HG1
            simp only [Option.isSome_some, Option.getD_some] at HG1
            clear hown17 hb17 hs17 k0
            go_wp2_with fail
            refine HG1.out.mono ?_
            rintro y w18 ⟨v18, rfl, hown18, hb18⟩
            obtain ⟨A18, c18, rfl, hs18⟩ := hown18.sl
            rw [← HNb.out]
            have HB18 := hide (HB17.out.trans (hb18.mono HB17.out.size))
            have HS18 := hide hs18.bound
            have HS17b := hide (HS17.out.move (w' := w18) fun k hk _ => hb18.block k hk.2)
            obtain ⟨ab', ao', e6, _, k2⟩ := HCe.out _ HB18.out
            injection e6 with e6
            injection e6 with e6 e7 _
            subst e6 e7
            have HG1 := hide (HGet.out _ HB18.out gu HGu.out I)
            rw [HGo.out] at HG1
            simp only [Option.isSome_some, Option.getD_some] at HG1
            clear hown18 hb18 hs18 k1 HS17
            go_wp2_with fail
            refine HG1.out.mono ?_
            rintro y w19 ⟨v19, rfl, hown19, hb19⟩
            obtain ⟨A19, c19, rfl, hs19⟩ := hown19.sl
            rw [← HNb.out]
            have HB19 := hide (HB18.out.trans (hb19.mono HB18.out.size))
            have HS19 := hide hs19
            have HS17 := hide ((HS17b.out.bound.move (w' := w19) fun k hk _ => hb19.block k hk.2).bound)
            have HS18b := hide (HS18.out.move (w' := w19) fun k hk _ => hb19.block k hk.2)
            have HC1 := hide (bytes_two b b A17 A18 nb nb c17 c18 _ _ w19 HS17.out HS18b.out HNb.out HNb.out HBl.out)
            rw [decide_eq_true rfl] at HC1
            clear hown19 hb19 hs19 k2 HS17b HS18 HG1
            go_wp2_with fail
            refine HC1.out.mono ?_
            rintro y w20 ⟨rfl, hb20⟩
            have HC2 := hide (bytes_two b b A17 A19 nb nb c17 c19 _ _ w20 (HS17.out.move (w' := w20) fun k hk _ => hb20.block k hk.2) (HS19.out.bound.move (w' := w20) fun k hk _ => hb20.block k hk.2) HNb.out HNb.out HBl.out)
            rw [decide_eq_true rfl] at HC2
            have HB20 := hide (HB19.out.trans (hb20.mono HB19.out.size))
            clear hb20 HC1 HS17 HS18b HS19
            go_wp2_with fail
            refine HC2.out.mono ?_
            rintro y w21 ⟨rfl, hb21⟩
            have HB21 := hide (HB20.out.trans (hb21.mono HB20.out.size))
            clear hb21 HC2
            go_wp2
            exact ⟨⟨j + 1, by go_num, by omega, by show Hid _; exact HB21⟩, by simp [intOf]; omega⟩
          · obtain rfl : j = M := by omega
            have HMa := hide ((HT.out _ HB.out).many HC.out HGt.out HL.out)
            rw [← HM.out] at HMa
            have hqq : ((j : Int) == (j : Int)) = true := by simp
            go_wp2_with fail
            refine HMa.out.mono ?_
            rintro y w17 ⟨rfl, hb17⟩
            have HB17 := hide (HLow.out.trans ((HB.out.trans (hb17.mono HB.out.size)).mono HLow.out.size))
            clear hb17 HMa
            go_wp2
            go_ret
            exact ⟨rfl, HB17.out⟩
end Go.Proofs.YtcmjdepjckhpdaaDoor.So
