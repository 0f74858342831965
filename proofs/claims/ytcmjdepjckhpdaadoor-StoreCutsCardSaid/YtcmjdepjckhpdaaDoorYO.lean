/-
  The law StoreOnce, over any store that keeps the contract.
-/
import Derived.Test.YtcmjdepjckhpdaaDoorYN
namespace Go.Proofs.YtcmjdepjckhpdaaDoor.So
open Go Go.RowKit Kt Kg Wr Lw Sha Dk Dg

theorem ots_cell {w : World} {S : Nat → Prop} {E : TypeId} {A : Option Addr} {n c : Nat} {l : List Bs} (h : OTS w S E (.slice A n c) l) {k : Nat} {x : Bs} (hk : l[k]? = some x) : ∃ b, A = some ⟨b, 0, none⟩ ∧ w.cell? ⟨b, k, none⟩ = some (.string ⟨x.toArray⟩) := by
  obtain ⟨A', c', e, hv⟩ := h.vs
  injection e with e1 _ e3
  subst e1 e3
  obtain ⟨b, o, rfl, _, hc⟩ := vs_at hv hk
  rcases h.1.2 with ⟨h0, _⟩ | ⟨g, cap, cur, hs, _⟩
  · cases h0
  · injection hs with hs _ _
    injection hs with hs
    injection hs with _ hs _
    subst hs
    rw [Nat.zero_add] at hc
    exact ⟨b, rfl, hc⟩
set_option maxRecDepth 100000 in
set_option maxHeartbeats 8000000 in
theorem lawOnce_any {In : World → (Nat → Prop) → Nat → Nat → List Bs → Prop} (room : Nat) (l : List Bs) (A : Option Addr) (c : Nat) (P : Nat → Prop) (w : World) (C : Ct w In) (hT : TabR w) (hs : Vs w P A c (texts l)) (hl : l.length ≤ 9223372036854775807) :
    Calls Tryd.prog 6 #[.slice A l.length c, .int .u16 (room : Int)] w fun y w' => y = .returned (.bool true) ∧ Below w.heap.size w w' := by
  have HC := hide C
  have HT := hide hT
  have Hs := hide (vs_low hs)
  have Hw := hide (swake_any w C hT)
  have Hl := hide hl
  obtain ⟨N, hN⟩ : ∃ N, N = l.length := ⟨_, rfl⟩
  have HN := hide hN
  rw [← hN] at hl ⊢
  clear C hT hs hN
  have hrm : (room : Int).tmod 1001 = ((room % 1001 : Nat) : Int) := by rw [Int.ofNat_tmod]; rfl
  obtain ⟨n, hn⟩ : ∃ n, n = room % 1001 := ⟨_, rfl⟩
  have hn2 : n ≤ 1000 := by omega
  rw [← hn] at hrm
  have hw1 : IntKind.u16.wrap (n : Int) = (n : Int) := by rw [IntKind.wrap_u16]; omega
  have hw2 : IntKind.i64.wrap (n : Int) = (n : Int) := IntWalk.i64_in _ (by omega)
  have Hn2 := hide hn2
  clear hn hn2
  go_enter Tryd.func6, Tryd.ntmps6
  go_wp2_with fail
  refine Hw.out.mono ?_
  rintro y w1 ⟨rfl, hb1⟩
  have HB1 := hide hb1
  have HFew := hide (fewT_any l A c _ w1 (vs_keep Hs.out hb1) Hl.out)
  rw [← HN.out] at HFew
  clear hb1 Hw
  go_wp2_with fail
  refine HFew.out.mono ?_
  rintro y w2 ⟨rfl, hb2⟩
  have HB2 := hide (HB1.out.trans (hb2.mono HB1.out.size))
  clear hb2 HFew HB1
  cases hfe : fewT l with
  | false =>
    go_wp2
    go_ret
    exact ⟨rfl, HB2.out⟩
  | true =>
    have HFe := hide (fewT_spec hfe)
    clear hfe
    go_wp2_with fail
    refine (empty_any n (by have := Hn2.out; omega) w2).mono ?_
    rintro y w3 ⟨g, h, rfl, hd3, _, hg, hgh, hb3⟩
    have HB3 := hide (HB2.out.trans (hb3.mono HB2.out.size))
    have HG := hide (Nat.le_trans HB2.out.size hg)
    have HOp := hide (HC.out.born HB3.out hd3 (by have := Hn2.out; omega) (fun k hk => by rw [hk]; exact HG.out))
    clear hd3 hg hgh hb3 HB2 hrm hw1 hw2
    go_wp2_with fail
    refine HOp.out.mono ?_
    rintro y w4 ⟨gs, rfl, hp4, hb4, _⟩
    have HK4 := hide (KI.start HC.out hb4 hp4)
    have HF4 := hide (show OnceF ⟨new n, []⟩ [] 0 from ⟨Good.new (new_fit (by have := Hn2.out; omega)) rfl, ⟨rfl, rfl⟩, fun b hb => (by cases hb), Nat.le_refl _, Nat.le_refl _⟩)
    clear hp4 hb4 HOp HB3
    go_wp2
    go_loopw [11, 12, 13] (fun v u i wr => ∃ (k : Nat) (v1 v2 : Value) (x : Ss) (K : List Bs), v1 = v ∧ v2 = u ∧ i = .int .i64 k ∧ k ≤ N ∧ Hid (OnceF x K k) ∧ Hid (KI In w wr gs g x v1 v2 K (K.map sha))) (fun _ _ i _ => N - (intOf i).toNat)
    case atStart => exact ⟨0, _, _, _, [], rfl, rfl, rfl, Nat.zero_le _, by show Hid _; exact HF4, by show Hid _; exact HK4⟩
    case round =>
      obtain ⟨k, v1, v2, x, K, rfl, rfl, rfl, hk, HF, HK⟩ := hrel
      clear HF4 HK4
      by_cases hlt : k < N
      · obtain ⟨b, hx⟩ : ∃ b, l[k]? = some b := ⟨_, List.getElem?_eq_getElem (by have := HN.out; omega)⟩
        have hb60 : b.length ≤ 60 := HFe.out.1 b (List.mem_of_getElem? hx)
        obtain ⟨bb, oo, rfl, hpb, cx⟩ := vs_at Hs.out hx
        have HX := hide (fun (wz : World) (hz : Below w.heap.size w wz) => show wz.cell? ⟨bb, oo + k, none⟩ = some (.string ⟨b.toArray⟩) from (World.cell?_of_block (a := ⟨bb, oo + k, none⟩) (hz.block bb hpb)).trans cx)
        have HSz := hide HK.out.size
        have hlK : x.L.length ≤ 1000 := by have := HF.out.few; have := HF.out.le; have := HFe.out.2; have := HN.out; omega
        obtain ⟨cap, ob, hcv, hsl⟩ := conv_str b wr
        obtain ⟨q, hq⟩ : ∃ z, z = wr.heap.size := ⟨_, rfl⟩
        obtain ⟨wa, hwa⟩ : ∃ z, z = (wr.alloc ob).drew := ⟨_, rfl⟩
        have hba : Below wr.heap.size wr wa := by rw [hwa]; exact ((Below.refl _ wr).alloc (Nat.le_refl _) _).drew
        have hsl : Sl wa (fun z => z = q) (some ⟨q, 0, none⟩) cap b := by rw [hwa, hq]; exact hsl
        have HPut := hide (HK.out.put HC.out HF.out.good.fit b (by omega) hlK hba (by omega) hsl)
        obtain ⟨nb, hnb⟩ : ∃ z, z = b.length := ⟨_, rfl⟩
        rw [← hnb] at hcv HPut
        rw [← hq] at hcv
        have HWa := hide hwa
        have HQ := hide hq
        have Hb60 := hide hb60
        have hcx := HX.out wr HK.out.low
        have HPl := hide (plain_put (b := b) HF.out.plain (by omega))
        have HLow := hide HK.out.low
        obtain ⟨m, hm⟩ : ∃ z, z = x.s.k.length := ⟨_, rfl⟩
        rw [← hm] at HSz
        have HM := hide hm
        clear hx hb60 hpb cx hlK hsl hba hwa hq hnb hm
        go_wp2_with fail
        refine HSz.out.mono ?_
        rintro y w5 ⟨rfl, rfl⟩
        clear HSz
        go_wp2_with fail
        rw [← HWa.out]
        refine HPut.out.mono ?_
        clear hcv hcx HPut
        rintro y w6 ⟨rfl, hk6, hb6⟩
        have hcx := HX.out w6 hb6
        have HK6 := hide hk6
        have HB6 := hide hb6
        clear hk6 hb6 HWa HQ
        rcases HPl.out with hp | ⟨hp, hpx⟩
        · have HF6 := hide (HF.out.yes Hb60.out (by rw [hp]))
          rw [hp]
          generalize (put x b).1 = x6 at *
          clear hp HPl
          have HKl := hide (show K.length + 1 ≤ 1000000000 by have := HF.out.le; have := HFe.out.2; have := HN.out; omega)
          have HIl := hide (show (K.map sha).length + 1 ≤ 1000000000 by have := HKl.out; rw [List.length_map]; exact this)
          obtain ⟨ids, hids⟩ : ∃ z, z = K.map sha := ⟨_, rfl⟩
          obtain ⟨I, hI⟩ : ∃ z, z = sha b := ⟨_, rfl⟩
          rw [← hids] at HK6 HIl
          rw [← hI]
          have HIds := hide hids
          have HI := hide hI
          clear hids hI
          have tok1 : True := trivial
          have tok2 : True := trivial
          go_wp2_with (first
            | (have _t := tok1; at_builtin; go_loud (refine wpList_pushT2 rfl (.tmp 68) (.tmp 73) tSs rfl Tryd.underlying22 infoS (fun k => v1.ownBlock = some k ∧ w.heap.size ≤ k) v1 K b _ rfl rfl rfl HK6.out.r1 HKl.out ?_; intro g7 cap7 w7 hown7 hg7; have HK7 := hide (HK6.out.push1 HC.out hg7 hown7); obtain ⟨v7, hv7⟩ : ∃ z, z = Value.slice (some ⟨g7, 0, none⟩) (K.length + 1) cap7 := ⟨_, rfl⟩; rw [← hv7] at HK7; rw [← hv7]; clear tok1 hown7 hg7 hv7 hcx))
            | (have _t := tok2; at_builtin; go_loud (refine wpList_pushT2 rfl (.tmp 75) (.tmp 77) tIds rfl Tryd.underlying50 infoId (fun k => v2.ownBlock = some k ∧ w.heap.size ≤ k) v2 ids I _ rfl rfl rfl HK7.out.r2 HIl.out ?_; intro g8 cap8 w8 hown8 hg8; have HK8 := hide (HK7.out.push2 HC.out hg8 hown8); obtain ⟨v8, hv8⟩ : ∃ z, z = Value.slice (some ⟨g8, 0, none⟩) (ids.length + 1) cap8 := ⟨_, rfl⟩; rw [← hv8] at HK8; rw [← hv8]; clear tok2 hown8 hg8 hv8)))
          have hKK : ids ++ [I] = (K ++ [b]).map sha := by rw [List.map_append, ← HIds.out, HI.out]; rfl
          rw [hKK] at HK8
          exact ⟨⟨k + 1, _, _, _, K ++ [b], rfl, rfl, by go_num, by omega, by show Hid _; exact HF6, by show Hid _; exact HK8⟩, by simp [intOf]; omega⟩
        · rw [hpx] at HK6
          have HSz := hide HK6.out.size
          have HF6 := hide HF.out.no
          rw [← HM.out] at HSz
          rw [hp]
          clear hp hpx HPl
          have e1 : (([] : Bs).toArray) = #[] := rfl
          go_wp2_with fail
          refine HSz.out.mono ?_
          rintro y w7 ⟨rfl, rfl⟩
          clear HSz
          go_wp2
          exact ⟨⟨k + 1, _, _, _, _, rfl, rfl, by go_num, by omega, by show Hid _; exact HF6, by show Hid _; exact HK6⟩, by simp [intOf]; omega⟩
      · obtain rfl : k = N := by omega
        have hlK : x.L.length ≤ 1000 := by have := HF.out.few; have := HF.out.le; have := HFe.out.2; have := HN.out; omega
        have HSz := hide HK.out.size
        have HMa := hide (HK.out.many HC.out hlK)
        obtain ⟨m, hm⟩ : ∃ z, z = x.s.k.length := ⟨_, rfl⟩
        rw [← hm] at HSz
        have HM := hide hm
        have hle := HF.out.few
        obtain ⟨m2, hm2⟩ : ∃ z, z = x.L.length := ⟨_, rfl⟩
        rw [← hm2] at HMa hle
        have HM2 := hide hm2
        have HL := hide hlK
        clear hm hm2 hlK
        go_wp2_with fail
        refine HSz.out.mono ?_
        rintro y w5 ⟨rfl, rfl⟩
        clear HSz
        go_wp2_with fail
        refine HMa.out.mono ?_
        rintro y w6 ⟨rfl, hb6⟩
        have HK6 := hide (HK.out.below HC.out hb6)
        clear hb6 HMa HK
        obtain ⟨A1, c1, rfl, _⟩ := HK6.out.r1.vs
        obtain ⟨A2, c2, rfl, _⟩ := HK6.out.r2.vs
        have hil : (K.map sha).length = K.length := List.length_map _
        rw [hil] at HK6 ⊢
        obtain ⟨NK, hNK⟩ : ∃ z, z = K.length := ⟨_, rfl⟩
        rw [← hNK] at HK6 hle ⊢
        have HNK := hide hNK
        have hNs : NK ≤ 1000 := by have := HF.out.le; have := HFe.out.2; have := HN.out; omega
        clear hNK hil
        go_wp2
        go_loopw [19] (fun i wr => ∃ j : Nat, i = .int .i64 j ∧ j ≤ NK ∧ Hid (KI In w wr gs g x (.slice A1 NK c1) (.slice A2 NK c2) K (K.map sha))) (fun i _ => NK - (intOf i).toNat)
        case atStart => exact ⟨0, rfl, Nat.zero_le _, by show Hid _; exact HK6⟩
        case round =>
          obtain ⟨j, rfl, hj, HK⟩ := hrel
          clear HK6
          have hdl := decide_eq_true (show (m2 : Int) ≤ (NK : Int) by omega)
          by_cases hlt : j < NK
          · obtain ⟨b, hx⟩ : ∃ b, K[j]? = some b := ⟨_, List.getElem?_eq_getElem (by have := HNK.out; omega)⟩
            have hba := HF.out.all b (List.mem_of_getElem? hx)
            have hxi : (K.map sha)[j]? = some (sha b) := by rw [List.getElem?_map, hx]; rfl
            have HC1 := hide (fun (wz : World) (hz : KI In w wz gs g x (.slice A1 NK c1) (.slice A2 NK c2) K (K.map sha)) => ots_cell hz.r1 hx)
            have HC2 := hide (fun (wz : World) (hz : KI In w wz gs g x (.slice A1 NK c1) (.slice A2 NK c2) K (K.map sha)) => ots_cell hz.r2 hxi)
            have hpa := put_again (x := x) (b := b) (by omega) hba.2
            obtain ⟨cap, ob, hcv, hsl⟩ := conv_str b wr
            obtain ⟨q, hq⟩ : ∃ z, z = wr.heap.size := ⟨_, rfl⟩
            obtain ⟨wa, hwa⟩ : ∃ z, z = (wr.alloc ob).drew := ⟨_, rfl⟩
            have hbe : Below wr.heap.size wr wa := by rw [hwa]; exact ((Below.refl _ wr).alloc (Nat.le_refl _) _).drew
            have hsl : Sl wa (fun z => z = q) (some ⟨q, 0, none⟩) cap b := by rw [hwa, hq]; exact hsl
            have HPut := hide (HK.out.put HC.out HF.out.good.fit b (by omega) HL.out hbe (by omega) hsl)
            rw [hpa] at HPut
            have Hb60 := hide hba.1
            obtain ⟨nb, hnb⟩ : ∃ z, z = b.length := ⟨_, rfl⟩
            rw [← hnb] at hcv HPut
            rw [← hq] at hcv
            have HWa := hide hwa
            have HNb := hide hnb
            obtain ⟨b1, rfl, k1⟩ := HC1.out wr HK.out
            obtain ⟨I, hI⟩ : ∃ z, z = sha b := ⟨_, rfl⟩
            rw [← hI] at HPut HC2
            have HI := hide hI
            clear hx hba hxi hpa hsl hbe hwa hq hnb hI
            go_wp2_with fail
            rw [← HWa.out]
            refine HPut.out.mono ?_
            clear hcv k1 HPut
            rintro y w7 ⟨rfl, hk7, hb7⟩
            have HK7 := hide hk7
            have HB7 := hide hb7
            obtain ⟨b1', e1, k1⟩ := HC1.out w7 hk7
            injection e1 with e1
            injection e1 with e1 _ _
            subst e1
            obtain ⟨b2, rfl, k2⟩ := HC2.out w7 hk7
            obtain ⟨cap7, ob7, hcv, hsl⟩ := conv_str b w7
            obtain ⟨w8, hw8⟩ : ∃ z, z = (w7.alloc ob7).drew := ⟨_, rfl⟩
            have hb8 : Below w7.heap.size w7 w8 := by rw [hw8]; exact ((Below.refl _ w7).alloc (Nat.le_refl _) _).drew
            have hsl : Sl w8 (fun z => z = w7.heap.size) (some ⟨w7.heap.size, 0, none⟩) cap7 b := by rw [hw8]; exact hsl
            have HOf := hide (rof_any b _ _ _ w8 hsl (by have := Hb60.out; omega) (tabR_keep HT.out (HB7.out.trans (hb8.mono HB7.out.size))))
            rw [← HI.out, ← HNb.out] at HOf
            rw [← HNb.out] at hcv
            have HK8 := hide (HK7.out.below HC.out hb8)
            have HW8 := hide hw8
            have hII : (I == I) = true := by simp
            clear hk7 hb7 hw8 hb8 hsl HWa HK7
            go_wp2_with fail
            rw [← HW8.out]
            refine HOf.out.mono ?_
            rintro y w9 ⟨rfl, hb9⟩
            have HK9 := hide (HK8.out.below HC.out hb9)
            clear hb9 HOf hcv k1 k2
            go_wp2
            exact ⟨⟨j + 1, by go_num, by omega, by show Hid _; exact HK9⟩, by simp [intOf]; omega⟩
          · obtain rfl : j = NK := by omega
            have HSz := hide HK.out.size
            have HMa := hide (HK.out.many HC.out HL.out)
            rw [← HM.out] at HSz
            rw [← HM2.out] at HMa
            have hqm : ((m : Int) == (m : Int)) = true := by simp
            have hqm2 : ((m2 : Int) == (m2 : Int)) = true := by simp
            go_wp2_with fail
            refine HSz.out.mono ?_
            rintro y w5 ⟨rfl, rfl⟩
            clear HSz
            go_wp2_with fail
            refine HMa.out.mono ?_
            rintro y w6 ⟨rfl, hb6⟩
            have HB6 := hide (HK.out.low.trans (hb6.mono HK.out.low.size))
            clear hb6 HMa
            go_wp2
            go_ret
            exact ⟨rfl, HB6.out⟩
end Go.Proofs.YtcmjdepjckhpdaaDoor.So
